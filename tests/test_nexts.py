"""Points [8], [136] and [137]: schedules between lasts and nexts, and behind which the lasts are given ones."""

import itertools
import random
import unittest

from otherfirst.errors import InvalidLasts, InvalidLoad, InvalidNexts, NotBehind, NotBetween, NotForest, TooMany
from otherfirst.nets import Net
from otherfirst.nexts import behind, between, is_between
from otherfirst.schedules import is_complete, run_all
from otherfirst.states import State
from otherfirst.stories import forest_ring
from tests import judge
from tests.helpers import EMPTY, LONG, PAIR, TRIANGLE, Case, any_values, no_lasts_of, no_loads_of, random_forest
from tests.helpers import random_lasts, random_states

CHAIN = Net(3, [((0, True), (1, True)), ((1, True), (2, True)), ((2, True),)])
FRESH = [None, None, None]
ALONE = Net(1, [((0, True),), ((0, True),), ((0, False),)])


def own_orders(state, node):
    """All orders of the runs left at a node that it could run alone, by a search."""
    bag = [task for task in state.net.at(node) for _ in range(state.load[task])]
    found = []
    for order in set(itertools.permutations(bag)):
        row = [state.lasts[node]] + list(order)
        if not any(one == other and state.net.minds(one, node) for one, other in zip(row, row[1:])):
            found.append(order)
    return found


def has_order_to_next(state, node, after):
    """Whether a node has an own row behind which its last is not a next that it minds."""
    for order in own_orders(state, node):
        last = ([state.lasts[node]] + list(order))[-1]
        if last is None or last != after or not state.net.minds(last, node):
            return True
    return False


def has_order_to_last(state, node, last):
    """Whether a node has an own row from no last that ends with this last, or none at all for None."""
    return any((list(order) or [None])[-1] == last for order in own_orders(state, node))


def is_between_by_words(state, nexts, schedule):
    lasts = list(state.lasts)
    load = list(state.load)
    for task in schedule:
        if task not in judge.moves(state.net, load, lasts):
            return False
        load, lasts = judge.behind(state.net, load, lasts, task)
    free = [last is None or last != after or not state.net.minds(last, node)
            for node, (last, after) in enumerate(zip(lasts, nexts))]
    return sum(load) == 0 and all(free)


def small_cases(seed, number, most_runs=6):
    """Tuples of a state of a forest and nexts."""
    rng = random.Random(seed)
    found = []
    while len(found) < number:
        net = random_forest(rng)
        state = State(net, [rng.randint(0, 2) for _ in range(len(net))], random_lasts(rng, net))
        if state.total() <= most_runs:
            found.append((state, random_lasts(rng, net, 0.2)))
    return found


class BetweenTest(Case):
    def test_a_search_agrees(self):
        seen = {True: 0, False: 0}
        for state, nexts in small_cases(1, 600):
            wrong = [node for node in range(state.net.nodes) if not has_order_to_next(state, node, nexts[node])]
            if wrong:
                self.refuses(NotBetween, {"node": wrong[0]}, between, state, nexts)
            else:
                found = between(state, nexts)
                self.agree(type(found), list)
                self.assertTrue(is_between_by_words(state, nexts, found))
                self.agree([is_between(state, nexts, found), between(state, tuple(nexts))], [True, found])
            seen[wrong == []] += 1
            # The node that is told has too much of one task, by the numbers of the document.
            self.agree(wrong, self.by_numbers(state, nexts))
        self.assertGreater(min(seen.values()), 150)

    def by_numbers(self, state, nexts):
        net = state.net
        found = []
        for node in range(net.nodes):
            work = sum(state.load[task] for task in net.at(node))
            for task in net.at(node):
                least = work + 1 - (state.lasts[node] == task) - (nexts[node] == task)
                if net.minds(task, node) and 2 * state.load[task] > least and node not in found:
                    found.append(node)
        return found

    def test_between(self):
        self.agree(between(state=State(CHAIN, [1, 1, 1]), nexts=[None, 0, 1]), [0, 1, 2])
        self.agree([between(State(EMPTY, []), [None, None]), between(State(CHAIN, [0, 0, 0], [0, 0, 2]), FRESH)], [[], []])
        # A node that runs nothing keeps its last.
        self.refuses(NotBetween, {"node": 1}, between, State(CHAIN, [0, 0, 0], [None, 1, 1]), [None, 1, 1])
        self.agree(between(State(CHAIN, [0, 0, 0], [None, 1, 2]), [0, 0, 1]), [])
        # What a node does not mind may be its last and its next.
        self.agree(between(State(ALONE, [0, 0, 3], [2]), [2]), [2, 2, 2])
        self.agree(between(State(ALONE, [1, 0, 1], [0]), [2]), [2, 0])
        self.refuses(NotBetween, {"node": 0}, between, State(ALONE, [1, 1, 0], [0]), [0])
        self.agree(between(State(ALONE, [1, 2, 0], [0]), [0]), [1, 0, 1])
        self.new_each_time(lambda: between(State(CHAIN, [1, 1, 1]), FRESH))
        self.unchanged(between, State(CHAIN, [1, 1, 1]), [None, 0, 1])

    def test_great_trees(self):
        rng = random.Random(136)
        for _ in range(40):
            nodes = rng.randint(2, 24)
            tasks = [((rng.randrange(node), True), (node, True)) for node in range(1, nodes)]
            net = Net(nodes, tasks + [((node, False),) for node in range(nodes)])
            load = [rng.randint(0, 6) for _ in tasks] + [rng.randint(4, 8) for _ in range(nodes)]
            state = State(net, load, random_lasts(rng, net))
            nexts = random_lasts(rng, net)
            try:
                found = between(state, nexts)
            except NotBetween as error:
                self.agree(error.node, self.by_numbers(state, nexts)[0])
            else:
                self.assertTrue(is_between_by_words(state, nexts, found))
                self.agree(self.by_numbers(state, nexts), [])

    def test_at_most_400_runs(self):
        self.agree(len(between(State(ALONE, [200, 200, 0]), [1])), 400)
        self.agree(between(State(ALONE, [0, 0, 400]), [2]), [2] * 400)
        self.refuses(TooMany, {"count": 401}, between, State(ALONE, [200, 201, 0]), [1])
        self.refuses(TooMany, {"count": 401}, between, State(ALONE, [401, 0, 0]), [0])
        self.refuses(TooMany, {"count": 3 * LONG}, between, State(ALONE, [LONG] * 3), [0])

    def test_refusals(self):
        for call in (between, lambda state, nexts: is_between(state, nexts, [])):
            self.refuses_all(InvalidNexts, no_lasts_of(CHAIN), lambda nexts: call(State(CHAIN, [LONG] * 3), nexts))
            self.refuses(InvalidNexts, {"given": [2, None]}, call, State(PAIR, [1, 1]), [2, None])
        for net in (PAIR, TRIANGLE):
            state = State(net, [LONG] * len(net))
            self.refuses(NotForest, {"ring": forest_ring(net)}, between, state, [None] * net.nodes)
        # Of several nodes without such an order the least one is told, and it counts behind the runs.
        self.refuses(NotBetween, {"node": 0}, between, State(CHAIN, [1, 1, 1]), [0, 0, 2])
        self.refuses(NotBetween, {"node": 1}, between, State(CHAIN, [1, 3, 0]), FRESH)
        self.refuses(TooMany, {"count": 401}, between, State(CHAIN, [401, 0, 0]), [0, 0, None])


class IsBetweenTest(Case):
    def test_all_small_lists(self):
        right = 0
        cases = [(State(CHAIN, [1, 1, 1], lasts), nexts) for lasts in (FRESH, [0, 0, None], [None, 1, 2])
                 for nexts in (FRESH, [0, 0, 1], [None, 1, 2], [None, 0, 1])]
        cases += [(State(net, load), nexts) for net, load in ((PAIR, [1, 1]), (PAIR, [2, 1])) for nexts in
                  ([None, None], [0, 1], [1, 1], [None, 0])]
        cases += [(State(ALONE, [1, 0, 2], [2]), nexts) for nexts in ([0], [1], [2], [None])]
        for state, nexts in cases:
            for length in range(5):
                for value in itertools.product(range(len(state.net)), repeat=length):
                    wanted = is_between_by_words(state, nexts, value)
                    self.agree([is_between(state, nexts, list(value)), is_between(state, tuple(nexts), value)], [wanted] * 2)
                    right += wanted
        self.assertGreater(right, 20)

    def test_it_asks_for_no_forest_and_for_no_few_runs(self):
        self.agree(is_between(state=State(PAIR, [1, 1]), nexts=[0, None], value=[0, 1]), True)
        self.agree(is_between(State(TRIANGLE, [1, 1, 1]), [0, 1, 2], [1, 0, 2]), False)
        self.agree(is_between(State(TRIANGLE, [1, 1, 1]), [0, 0, 1], [0, 1, 2]), True)
        self.agree(is_between(State(ALONE, [0, 0, 400]), [2], [2] * 400), True)
        self.agree(is_between(State(ALONE, [0, 0, 401]), [2], [2] * 401), False)
        self.agree(is_between(State(CHAIN, [LONG] * 3), FRESH, []), False)

    def test_each_condition_broken_alone(self):
        state = State(CHAIN, [1, 1, 1])
        self.agree([is_between(state, [None, 0, 1], value) for value in ([0, 1, 2], (0, 1, 2))], [True, True])
        for value in [[0, 1], [0, 1, 2, 2], [1, 0, 2], [0, 2, 1], [2, 1, 0], [False, 1, 2], [0, True, 2], [0, 1, 2.0],
                      [0, 1, 3], [0, 1, -1], [0, 1, None], [[0], 1, 2], [(0, 1, 2)], None, {}, "012"]:
            self.agree(is_between(state, [None, 0, 1], value), False)
        # A task that is barred on the way.
        self.agree(is_between(State(CHAIN, [1, 1, 1], [None, None, 2]), FRESH, [2, 1, 0]), False)

    def test_any_value(self):
        for value in any_values():
            self.agree(is_between(State(CHAIN, [1, 1, 1]), FRESH, value), False)
            self.agree(is_between(State(CHAIN, [1, 0, 0]), FRESH, [value]), repr(value) == "0")
            self.agree(is_between(State(EMPTY, []), [None, None], value), value in ([], ()))


class BehindTest(Case):
    def test_a_search_agrees(self):
        seen = {True: 0, False: 0}
        for state, lasts in small_cases(2, 900):
            net = state.net
            fresh = State(net, state.load)
            wrong = [node for node in range(net.nodes) if not has_order_to_last(fresh, node, lasts[node])]
            seen[wrong == []] += 1
            self.check(net, state.load, lasts, wrong)
        # Lasts that some schedules leave.
        for state, _ in small_cases(3, 300):
            for order in judge.Search(state.net).all(state.load, [None] * state.net.nodes)[:3]:
                lasts = run_all(State(state.net, state.load), order).lasts
                self.check(state.net, state.load, lasts, [])
                seen[True] += 1
        self.assertGreater(min(seen.values()), 200)

    def check(self, net, load, lasts, wrong):
        if wrong:
            self.refuses(NotBehind, {"node": wrong[0]}, behind, net, load, lasts)
        else:
            found = behind(net, load, lasts)
            self.agree(type(found), list)
            self.agree([is_complete(State(net, load), found), run_all(State(net, load), found).lasts], [True, tuple(lasts)])
            self.agree(behind(net, list(load), list(lasts)), found)

    def test_behind(self):
        self.agree(behind(net=CHAIN, load=[1, 1, 1], lasts=[0, 0, 1]), [2, 1, 0])
        self.agree([behind(EMPTY, [], [None, None]), behind(CHAIN, (0, 0, 0), (None, None, None))], [[], []])
        self.refuses(NotBehind, {"node": 2}, behind, CHAIN, [1, 1, 1], [0, 0, None])
        self.refuses(NotBehind, {"node": 0}, behind, CHAIN, [0, 0, 0], [0, 0, None])
        self.refuses(NotBehind, {"node": 1}, behind, CHAIN, [1, 1, 1], [0, None, None])
        self.agree(behind(ALONE, [0, 0, 3], [2]), [2, 2, 2])
        self.agree(behind(ALONE, [2, 1, 0], [0]), [0, 1, 0])
        self.refuses(NotBehind, {"node": 0}, behind, ALONE, [2, 1, 0], [1])
        self.refuses(NotBehind, {"node": 0}, behind, ALONE, [3, 1, 0], [0])
        self.refuses(NotBehind, {"node": 0}, behind, ALONE, [1, 1, 0], [2])
        self.new_each_time(lambda: behind(CHAIN, [1, 1, 1], [0, 0, 1]))
        self.unchanged(behind, CHAIN, [1, 1, 1], [0, 0, 1])

    def test_at_most_400_runs(self):
        self.agree(behind(ALONE, [200, 200, 0], [1]), [0, 1] * 200)
        self.agree(behind(ALONE, [0, 0, 400], [2]), [2] * 400)
        self.refuses(TooMany, {"count": 401}, behind, ALONE, [200, 201, 0], [1])
        self.refuses(TooMany, {"count": 401}, behind, ALONE, [401, 0, 0], [None])
        self.refuses(TooMany, {"count": 3 * LONG}, behind, ALONE, [LONG] * 3, [None])

    def test_refusals(self):
        self.refuses_all(InvalidLoad, no_loads_of(CHAIN), lambda load: behind(CHAIN, load, None))
        self.refuses_all(InvalidLasts, no_lasts_of(CHAIN), lambda lasts: behind(CHAIN, [LONG] * 3, lasts))
        self.refuses(InvalidLasts, {"given": None}, behind, PAIR, [1, 1], None)
        for net in (PAIR, TRIANGLE):
            self.refuses(NotForest, {"ring": forest_ring(net)}, behind, net, [LONG] * len(net), [None] * net.nodes)


class FitTest(Case):
    def test_any_orders_of_a_forest_fit(self):
        # Point [8]: that some node has no order of its own is the one thing that can be in the way.
        done = 0
        for state in random_states(4, 300):
            if forest_ring(state.net) is None and state.total() < 7:
                alone = all(own_orders(state, node) for node in range(state.net.nodes))
                self.agree(judge.done(state.net, state.load, state.lasts), alone)
                done += alone
        self.assertGreater(done, 30)


if __name__ == "__main__":
    unittest.main()
