"""Points [8] and [61] to [67]: exchanges of stations."""

import copy
import random
import unittest

from otherfirst.decide import can_be_done, defect
from otherfirst.errors import Impossible, InvalidIndex, InvalidNode, InvalidTask, TooMany
from otherfirst.exchanges import Exchange
from otherfirst.nets import Net
from otherfirst.runs import run, safe
from otherfirst.states import State, fine
from otherfirst.stations import station_of
from tests.helpers import (
    EMPTY, LONG, PAIR, ROW, TRIANGLE, Case, no_nodes_of, no_tasks_of, random_state, random_states,
)

NET = Net(2, [((0, True), (1, True)), ((1, True),)])
STATE = State(NET, [1, 1])
FREE = Net(1, [((0, False),)])
MINDED = Net(1, [((0, True),)])


def inside(exchange):
    """All that an exchange tells."""
    nodes = range(exchange.present().net.nodes)
    return copy.deepcopy([
        exchange.letters(), exchange.history(), exchange.present().line(), exchange.wanted(),
        [exchange.knows(node) for node in nodes], [exchange.log(node) for node in nodes],
    ])


def ready_state(rng):
    """A random state that can be done, with something left where that is easy."""
    while True:
        state = random_state(rng, most_nodes=5, most_tasks=7, most_left=3, none=rng.choice([0.1, 0.5, 1]))
        if can_be_done(state):
            return state


class CreationTest(Case):
    def test_the_beginning(self):
        state = State(ROW, [1, 2, 1], [None, 0, 2])
        exchange = Exchange(state=state)
        self.agree([exchange.letters(), exchange.history(), exchange.wanted()], [[], [], [0, 0, 0]])
        self.assertEqual(exchange.present(), state)
        for node in range(3):
            self.agree(exchange.knows(node), station_of(state, node).knows())
            self.agree(exchange.log(node), [])

    def test_impossible(self):
        self.refuses(Impossible, {"defect": ("often", 0, 0)}, Exchange, State(NET, [2, 0]))
        ring = State(TRIANGLE, [1, 1, 1], [0, 1, 2])
        self.refuses(Impossible, {"defect": ("ring", [(0, 0), (1, 1), (2, 2)])}, Exchange, ring)
        for state in random_states(61, 200):
            if defect(state) is not None:
                self.refuses(Impossible, {"defect": defect(state)}, Exchange, state)

    def test_too_many_comes_ahead_of_impossible(self):
        self.refuses(Impossible, {"defect": ("often", 0, 0)}, Exchange, State(MINDED, [400]))
        self.refuses(TooMany, {"count": 401}, Exchange, State(MINDED, [401]))
        self.refuses(TooMany, {"count": 401}, Exchange, State(FREE, [401]))
        self.refuses(TooMany, {"count": LONG}, Exchange, State(FREE, [LONG]))
        self.agree(Exchange(State(FREE, [400])).present().load, (400,))

    def test_a_net_without_tasks(self):
        exchange = Exchange(State(EMPTY, []))
        self.agree([exchange.settle(), exchange.history(), exchange.wanted(), exchange.knows(1)],
                   [2, [], [], (None, None, ())])
        self.assertEqual(exchange.present(), State(EMPTY, []))

    def test_exchanges_do_not_share_stations(self):
        one, other = Exchange(STATE), Exchange(STATE)
        one.settle()
        self.assertEqual(other.present(), STATE)
        self.agree([other.history(), other.letters()], [[], []])


class LettersTest(Case):
    def ready(self):
        """Three letters under way: asks for the tasks 0, 1 and 2."""
        exchange = Exchange(State(Net(2, [((0, False), (1, False))] * 3), [1, 1, 1]))
        exchange.tick(1)
        return exchange

    ASKS = [("ask", "run", task, 1, 0) for task in range(3)]

    def test_letters(self):
        self.agree(self.ready().letters(), self.ASKS)
        self.new_each_time(self.ready().letters)
        exchange = self.ready()
        told = exchange.letters()
        exchange.lose(0)
        self.agree(told, self.ASKS)

    def test_deliver(self):
        exchange = self.ready()
        self.agree(exchange.deliver(1), None)
        self.agree(exchange.letters(), [self.ASKS[0], self.ASKS[2], ("yes", "run", 1, 1, 1)])
        self.agree(exchange.knows(0), (None, ("run", 1, 1), ((0, 1, 0), (1, 1, 0), (2, 1, 0))))
        self.agree(exchange.deliver(at=2), None)
        self.agree(exchange.letters(), [self.ASKS[0], self.ASKS[2], ("done", "run", 1, 1, 0)])

    def test_lose(self):
        exchange = self.ready()
        self.agree(exchange.lose(1), None)
        self.agree(exchange.letters(), [self.ASKS[0], self.ASKS[2]])
        self.agree(exchange.lose(at=1), None)
        self.agree(exchange.letters(), [self.ASKS[0]])
        self.agree(exchange.knows(0), (None, None, ((0, 1, 0), (1, 1, 0), (2, 1, 0))))

    def test_double(self):
        exchange = self.ready()
        self.agree(exchange.double(1), None)
        self.agree(exchange.letters(), self.ASKS + [self.ASKS[1]])
        self.agree(exchange.double(at=0), None)
        self.agree(exchange.letters(), self.ASKS + [self.ASKS[1], self.ASKS[0]])
        # A letter that is sent later stands behind the doubled ones.
        exchange.deliver(0)
        self.agree(exchange.letters(), self.ASKS[1:] + [self.ASKS[1], self.ASKS[0], ("yes", "run", 0, 1, 1)])

    def test_refusals(self):
        exchange = self.ready()
        before = inside(exchange)
        for call in (exchange.deliver, exchange.lose, exchange.double):
            self.refuses_all(InvalidIndex, [3, 4, -1, -3, LONG, None, True, False, "0", [0], (0,), {}, 0.0], call)
            self.refuses(InvalidIndex, {"given": 0}, getattr(Exchange(STATE), call.__name__), 0)
        self.assertEqual(inside(exchange), before)


class DeedsTest(Case):
    def test_tick(self):
        exchange = Exchange(STATE)
        self.agree([exchange.tick(0), exchange.letters(), exchange.history()], [None, [], []])
        self.agree([exchange.tick(node=1), exchange.letters(), exchange.history()],
                   [None, [("ask", "run", 0, 1, 0)], [("run", 1)]])

    def test_fall(self):
        exchange = Exchange(State(Net(2, [((0, False), (1, False))]), [1]))
        exchange.tick(1)
        self.agree([exchange.fall(1), exchange.fall(node=0)], [None, None])
        self.agree([exchange.letters(), exchange.history()], [[("ask", "run", 0, 1, 0)], []])
        # An offer that waits is lost: node 0 holds that of node 2 and loses that of node 1.
        net = Net(3, [((0, False), (1, False)), ((0, False), (2, False))])
        exchange = Exchange(State(net, [1, 1]))
        for node in (1, 2):
            exchange.tick(node)
        exchange.deliver(1)
        exchange.deliver(0)
        exchange.fall(0)
        for _ in range(2):
            exchange.deliver(0)
        self.agree([exchange.letters(), exchange.history()], [[], [("run", 1)]])

    def test_order(self):
        exchange = Exchange(STATE)
        self.agree([exchange.order(0), exchange.order(task=1), exchange.order(1)], [None] * 3)
        self.agree(exchange.wanted(), [1, 2])
        self.agree([exchange.knows(0)[2], exchange.knows(1)[2]], [((0, 1, 0),), ((0, 1, 1), (1, 1, 2))])
        self.new_each_time(exchange.wanted)

    def test_refusals(self):
        exchange = Exchange(STATE)
        exchange.tick(1)
        before = inside(exchange)
        for call in (exchange.tick, exchange.fall, exchange.forget, exchange.knows, exchange.log):
            self.refuses_all(InvalidNode, no_nodes_of(NET), call)
        self.refuses_all(InvalidTask, no_tasks_of(NET), exchange.order)
        self.assertEqual(inside(exchange), before)

    def test_told_lists(self):
        exchange = Exchange(STATE)
        exchange.tick(1)
        self.new_each_time(exchange.history)
        self.new_each_time(lambda: exchange.log(1))
        history, log = exchange.history(), exchange.log(1)
        exchange.settle()
        self.agree([history, log], [[("run", 1)], [("run", 1)]])
        self.agree([exchange.history(), exchange.log(1)], [[("run", 1), ("run", 0)]] * 2)


class HistoryTest(Case):
    def test_a_run_is_decided_at_the_greater_end(self):
        exchange = Exchange(STATE)
        exchange.tick(1)
        exchange.deliver(0)
        self.agree(exchange.history(), [("run", 1)])
        exchange.deliver(0)
        self.agree(exchange.history(), [("run", 1), ("run", 0)])
        # Node 0 has not heard of it, and yet it is its last in the present state.
        self.assertEqual(exchange.present(), State(NET, [0, 0], [0, 0]))
        self.agree([exchange.knows(0), exchange.log(0)], [(None, ("run", 0, 1), ((0, 1, 0),)), []])
        exchange.deliver(0)
        self.agree([exchange.history(), exchange.log(0)], [[("run", 1), ("run", 0)], [("run", 0)]])
        self.assertEqual(exchange.present(), State(NET, [0, 0], [0, 0]))
        self.agree(exchange.log(node=1), [("run", 1), ("run", 0)])

    def test_a_forgetting_of_a_node_that_has_heard_of_all(self):
        exchange = Exchange(STATE)
        self.agree(exchange.forget(0), None)
        exchange.settle()
        self.agree(exchange.forget(node=0), None)
        exchange.forget(0)
        self.agree(exchange.history(), [("forget", 0), ("run", 1), ("run", 0), ("forget", 0), ("forget", 0)])
        self.agree(exchange.present().lasts, (None, 0))
        exchange.forget(1)
        self.agree([exchange.present().lasts, exchange.history()[-1]], [(None, None), ("forget", 1)])

    def test_a_forgetting_of_a_node_that_has_not_heard_of_a_run(self):
        exchange = Exchange(STATE)
        exchange.tick(1)
        exchange.deliver(0)
        # Here the run is agreed to, but not decided.
        exchange.forget(0)
        self.agree(exchange.history(), [("run", 1), ("forget", 0)])
        exchange.deliver(0)
        for _ in range(2):
            exchange.forget(0)
        self.agree(exchange.history(), [("run", 1), ("forget", 0), ("run", 0)])
        self.agree([exchange.present().lasts, exchange.knows(0)[0]], [(0, 0), None])
        # The node that decided the run has heard of it.
        exchange.forget(1)
        self.agree(exchange.history(), [("run", 1), ("forget", 0), ("run", 0), ("forget", 1)])
        exchange.deliver(0)
        self.agree([exchange.present().lasts, exchange.knows(0)[0]], [(0, None), 0])
        exchange.forget(0)
        self.agree([exchange.present().lasts, exchange.history()[-1]], [(None, None), ("forget", 0)])

    def test_a_more_of_which_a_station_has_not_heard_does_not_matter(self):
        exchange = Exchange(State(NET, [0, 0], [None, 1]))
        exchange.order(0)
        exchange.tick(1)
        self.agree(exchange.letters(), [("ask", "more", 0, 1, 0)])
        exchange.deliver(0)
        exchange.deliver(0)
        self.agree(exchange.history(), [("more", 0)])
        self.assertEqual(exchange.present(), State(NET, [1, 0], [None, 1]))
        self.agree(exchange.knows(0), (None, ("more", 0, 1), ((0, 0, 0),)))
        exchange.forget(0)
        self.agree([exchange.history(), exchange.wanted()], [[("more", 0), ("forget", 0)], [0, 0]])

    def test_own_mores(self):
        exchange = Exchange(State(NET, [0, 0]))
        exchange.order(1)
        exchange.tick(1)
        self.agree([exchange.history(), exchange.wanted()], [[("more", 1), ("run", 1)], [0, 0]])


class SettleTest(Case):
    def test_settle(self):
        exchange = Exchange(STATE)
        self.agree([exchange.settle(), exchange.history()], [3, [("run", 1), ("run", 0)]])
        self.agree([exchange.settle(), exchange.letters()], [2, []])

    def test_a_pass_ticks_all_stations_and_then_delivers(self):
        net = Net(3, [((0, False), (1, False)), ((0, False), (2, False)), ((0, False),)])
        exchange = Exchange(State(net, [1, 1, 1]))
        exchange.settle()
        # Node 0 runs its own task at its tick; of the two letters the earlier one, of node 1, is taken first.
        self.agree(exchange.history(), [("run", 2), ("run", 0), ("run", 1)])
        self.agree(exchange.log(0), [("run", 2), ("run", 0), ("run", 1)])

    def test_a_pass_without_news_between_two_with_news_is_not_the_end(self):
        # The end comes behind two passes in a row: here one run a pass, then two empty ones.
        exchange = Exchange(State(FREE, [5]))
        self.agree([exchange.settle(), exchange.history()], [7, [("run", 0)] * 5])

    def test_wanted_ones_count(self):
        exchange = Exchange(State(FREE, [399]))
        exchange.order(0)
        self.agree(exchange.settle(), 402)
        self.agree([exchange.history().count(("more", 0)), exchange.present().load, exchange.wanted()], [1, (0,), [0]])
        exchange = Exchange(State(FREE, [400]))
        exchange.order(0)
        before = inside(exchange)
        self.refuses(TooMany, {"count": 401}, exchange.settle)
        self.assertEqual(inside(exchange), before)
        exchange.tick(0)
        # One more was taken on and one was run: 400 are left.
        self.agree([exchange.present().load, exchange.wanted(), exchange.settle()], [(400,), [0], 402])

    def test_what_is_wanted_at_last(self):
        exchange = Exchange(State(MINDED, [0]))
        exchange.order(0)
        exchange.order(0)
        exchange.settle()
        self.agree([exchange.history(), exchange.wanted()], [[("more", 0), ("run", 0)], [1]])
        exchange.forget(0)
        exchange.settle()
        self.agree([exchange.history()[2:], exchange.wanted()], [[("forget", 0), ("more", 0), ("run", 0)], [0]])

    def test_large_exchanges(self):
        for nodes in (2, 3, 24):
            tasks = [((node, True), (other, True)) for node in range(nodes) for other in range(node + 1, nodes)][:90]
            tasks += [((node, node % 2 == 0),) for node in range(min(nodes, 10))] * (2 if nodes < 5 else 1)
            net = Net(nodes, tasks)
            state = State(net, [4 if nodes == 24 else 30 // nodes] * len(tasks))
            if can_be_done(state):
                exchange = Exchange(state)
                exchange.settle()
                self.agree(exchange.present().total(), 0)


class AlwaysTest(Case):
    """What points [64] to [67] say of every moment, and behind settle, whatever happened."""

    def setUp(self):
        self.deeds = {"run": 0, "more": 0, "forget": 0}

    def judge_history(self, first, exchange):
        """The history leads from the first state to the present one, by safe runs and fine mores."""
        state = first
        for deed, which in exchange.history():
            self.deeds[deed] += 1
            if deed == "run":
                self.assertIn(which, safe(state))
                state = run(state, which)
            elif deed == "more":
                load = [left + (task == which) for task, left in enumerate(state.load)]
                state = State(state.net, load, state.lasts)
                self.assertTrue(fine(state))
            else:
                lasts = [None if node == which else last for node, last in enumerate(state.lasts)]
                state = State(state.net, state.load, lasts)
        self.assertEqual(exchange.present(), state)
        self.assertTrue(can_be_done(state))

    def judge_stations(self, first, exchange):
        """What is decided is what the greater ends made, and the lesser ends made no more than that."""
        net = first.net
        made = [deed for deed in exchange.history() if deed[0] != "forget"]
        for node in range(net.nodes):
            log = exchange.log(node)
            ruled = [deed for deed in made if net.ends(deed[1])[-1] == node]
            self.assertEqual([deed for deed in log if net.ends(deed[1])[-1] == node], ruled)
            heard = [deed for deed in log if net.ends(deed[1])[-1] != node]
            there = [deed for deed in made if node in net.ends(deed[1]) and net.ends(deed[1])[-1] != node]
            missing = [there.count(deed) - heard.count(deed) for deed in sorted(set(there + heard))]
            self.assertTrue(all(number in (0, 1) for number in missing) and sum(missing) <= 1)
            last, held, counts = exchange.knows(node)
            if sum(missing):
                deed = [deed for deed in set(there) if there.count(deed) > heard.count(deed)][0]
                self.assertEqual(held[:2], deed)
                self.assertEqual(exchange.present().lasts[node], deed[1] if deed[0] == "run" else last)
            else:
                self.assertEqual(exchange.present().lasts[node], last)
            for task, left, wanted in counts:
                if net.ends(task)[-1] == node:
                    self.agree([left, wanted], [exchange.present().load[task], exchange.wanted()[task]])

    def judge_settled(self, first, exchange):
        before = len(exchange.history())
        passes = exchange.settle()
        self.assertGreaterEqual(passes, 2)
        self.assertTrue(passes > 2 or len(exchange.history()) == before)
        self.judge_history(first, exchange)
        present = exchange.present()
        self.agree([present.total(), exchange.letters()], [0, []])
        for node in range(first.net.nodes):
            last, held, counts = exchange.knows(node)
            self.agree([last, held], [present.lasts[node], None])
            self.assertEqual([left for _, left, _ in counts], [0] * len(counts))
        for task, count in enumerate(exchange.wanted()):
            if count > 0:
                self.assertTrue(any(minds and present.lasts[node] == task for node, minds in first.net.tasks[task]))

    def deed(self, rng, exchange, net):
        letters = exchange.letters()
        kind = rng.random()
        node = rng.randrange(net.nodes)
        if letters and kind < 0.5:
            exchange.deliver(rng.randrange(len(letters)))
        elif letters and kind < 0.55:
            exchange.lose(rng.randrange(len(letters)))
        elif letters and kind < 0.62:
            exchange.double(rng.randrange(len(letters)))
        elif kind < 0.85:
            exchange.tick(node)
        elif kind < 0.88:
            exchange.fall(node)
        elif kind < 0.91:
            exchange.forget(node)
        elif len(net):
            exchange.order(rng.randrange(len(net)))

    def play(self, rng, state, deeds):
        exchange = Exchange(state)
        for _ in range(deeds):
            self.deed(rng, exchange, state.net)
            self.judge_history(state, exchange)
            self.judge_stations(state, exchange)
        self.judge_settled(state, exchange)
        for _ in range(deeds // 2):
            self.deed(rng, exchange, state.net)
            self.judge_history(state, exchange)
            self.judge_stations(state, exchange)
        self.judge_settled(state, exchange)

    def test_random_deeds(self):
        rng = random.Random(62)
        for _ in range(60):
            self.play(rng, ready_state(rng), 60)
        for net, load in ((PAIR, [2, 2]), (TRIANGLE, [2, 2, 2]), (ROW, [1, 2, 2]), (NET, [1, 1])):
            for _ in range(5):
                self.play(rng, State(net, load), 80)
        self.assertGreater(min(self.deeds.values()), 1000)

    def test_settle_alone_runs_all_that_is_left(self):
        rng = random.Random(63)
        for _ in range(200):
            state = ready_state(rng)
            exchange = Exchange(state)
            for _ in range(rng.randint(0, 5) if len(state.net) else 0):
                exchange.order(rng.randrange(len(state.net)))
            self.judge_settled(state, exchange)

    def test_equal_deeds_make_equal_exchanges(self):
        for seed in range(20):
            told = []
            for _ in range(2):
                rng = random.Random(seed)
                exchange = Exchange(ready_state(rng))
                for _ in range(60):
                    self.deed(rng, exchange, exchange.present().net)
                told.append(inside(exchange))
            self.agree(told[0], told[1])


if __name__ == "__main__":
    unittest.main()
