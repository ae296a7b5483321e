"""Points [171] to [177]: desks."""

import random
import unittest

from otherfirst.desk import Desk
from otherfirst.errors import Barred, Circled, InvalidBounds, InvalidDeeds, InvalidLasts, InvalidNode, InvalidNumber
from otherfirst.errors import InvalidTask, NothingLeft, NothingToRedo, NothingToUndo, OtherError, Spoils, TooMany
from otherfirst.greatest import greatest
from otherfirst.journal import read_desk
from otherfirst.lasts import circle_of
from otherfirst.nets import Net
from otherfirst.runs import legal, safe, spoils
from otherfirst.runs import run as run_task
from otherfirst.states import State
from otherfirst.walks import lowered
from tests import judge
from tests.helpers import EMPTY, LONG, PAIR, ROW, TRIANGLE, Case, any_values, no_lasts_of, no_loads_of, no_nodes_of
from tests.helpers import no_tasks_of, random_lasts, random_net

# The net of the example: a shared task, and an own task of each node.
NET = Net(2, [((0, True), (1, True)), ((0, True),), ((1, True),)])
CHAIN = Net(3, [((0, True), (1, True)), ((1, True), (2, True)), ((2, True),)])
NO_NUMBERS = [None, True, False, 0, -1, 401, LONG, "1", [1], (1,), {}, 1.0]


class Slow:
    """A desk by the words of the document, which keeps all that it knows in plain lists and copies them."""

    def __init__(self, net, lasts):
        self.net = net
        self.now = ([0] * len(net), list(lasts), [0] * len(net))
        self.past = []
        self.future = []
        self.lines = []

    def do(self, word, *values):
        load, lasts, wishes = (list(part) for part in self.now)
        told = getattr(self, word)(load, lasts, wishes, *values)
        told += self.take_on(load, lasts, wishes)
        self.past.append((self.now, " ".join(str(part) for part in (word,) + values)))
        self.future = []
        self.now = (load, lasts, wishes)
        return told

    def take_on(self, load, lasts, wishes):
        told = []
        while True:
            for task, number in enumerate(wishes):
                more = [left + (other == task) for other, left in enumerate(load)]
                if number > 0 and judge.often(self.net, more, lasts) == []:
                    load[task] += 1
                    wishes[task] -= 1
                    told.append(("more", task))
                    break
            else:
                return told

    def wish(self, load, lasts, wishes, task, number):
        wishes[task] += number
        return []

    def run(self, load, lasts, wishes, task):
        load[:], lasts[:] = judge.behind(self.net, load, lasts, task)
        return [("run", task)]

    def strike(self, load, lasts, wishes, task):
        wishes[task] = 0
        load[:], walks = lowered(self.net, lasts, load, task)
        return [("strike", task)] + [("strike", other) for walk in walks for _, other in walk]

    def leave(self, load, lasts, wishes, node):
        lesser = [0 if node in self.net.ends(task) else left for task, left in enumerate(load)]
        lesser = greatest(self.net, lasts, lesser)
        told = [("strike", task) for task in range(len(load)) for _ in range(load[task] - lesser[task])]
        load[:] = lesser
        for task in self.net.at(node):
            wishes[task] = 0
        return told

    def forget(self, load, lasts, wishes, node):
        lasts[node] = None
        return [("forget", node)]

    def undo(self):
        now, line = self.past.pop()
        self.future.append((self.now, line))
        self.now = now

    def redo(self):
        now, line = self.future.pop()
        self.past.append((self.now, line))
        self.now = now

    def journal(self):
        return [line for _, line in self.past]


def told_of(desk):
    """All that a desk tells."""
    return [desk.state(), desk.load(), desk.lasts(), desk.wishes(), desk.journal(), desk.next_runs()]


def random_deed(rng, net):
    word = rng.choice(("wish", "wish", "wish", "run", "run", "strike", "leave", "forget"))
    if word in ("leave", "forget"):
        return (word, rng.randrange(net.nodes))
    task = rng.randrange(len(net))
    return (word, task, rng.choice((1, 1, 2, 3, 5))) if word == "wish" else (word, task)


class Talk(Case):
    """A desk and a slow one that go the same way."""

    def begin(self, net, lasts):
        self.desk = Desk(net, lasts)
        self.slow = Slow(net, lasts)
        self.first = tuple(lasts)
        self.refused = 0

    def agree_all(self):
        load, lasts, wishes = self.slow.now
        state = State(self.slow.net, load, lasts)
        desk = self.desk
        self.agree([desk.load(), desk.lasts(), desk.wishes()], [tuple(load), tuple(lasts), tuple(wishes)])
        self.agree([desk.state(), desk.journal(), desk.next_runs()], [state, self.slow.journal(), safe(state)])
        # Point [177]: it can be done at every moment, and its lasts are sound.
        self.assertTrue(judge.often(state.net, load, lasts) == [] and circle_of(state.net, lasts) is None)
        # Point [173]: nothing that is wished for could be taken on.
        both = [left + wish for left, wish in zip(load, wishes)]
        self.agree(greatest(state.net, lasts, both), tuple(load))

    def wrong(self, deed):
        """The error and the attributes that a deed raises now, or None."""
        load, lasts, _ = self.slow.now
        state = State(self.slow.net, load, lasts)
        word, task = deed[:2]
        if word in ("run", "strike") and load[task] == 0:
            return NothingLeft, {"task": task}
        if word == "run" and task not in legal(state):
            ends = [node for node, minds in state.net.tasks[task] if minds and lasts[node] == task]
            return Barred, {"nodes": ends}
        if word == "run" and task not in safe(state):
            return [(Spoils, {"node": node, "task": other}) for one, node, other in spoils(state) if one == task][0]
        return None

    def do(self, deed):
        word, *values = deed
        wrong = self.wrong(deed)
        if wrong is not None:
            before = told_of(self.desk)
            self.refuses(*wrong, getattr(self.desk, word), *values)
            self.agree(told_of(self.desk), before)
            self.refused += 1
            return
        told = getattr(self.desk, word)(*values)
        self.agree(told, self.slow.do(*deed))
        if word not in ("wish", "forget"):
            self.assertTrue(all(what != "more" for what, _ in told))

    def back(self):
        if self.slow.past:
            self.agree(self.desk.undo(), None)
            self.slow.undo()
        else:
            self.refuses(NothingToUndo, {}, self.desk.undo)

    def forth(self):
        if self.slow.future:
            self.agree(self.desk.redo(), None)
            self.slow.redo()
        else:
            self.refuses(NothingToRedo, {}, self.desk.redo)

    def read_anew(self):
        other = read_desk(self.slow.net, self.first, self.desk.journal())
        self.assertTrue(other == self.desk)
        self.agree(told_of(other), told_of(self.desk))


class TalkTest(Talk):
    def test_long_talks(self):
        rng = random.Random(171)
        refused = 0
        for _ in range(60):
            net = random_net(rng, 5, 6)
            lasts = random_lasts(rng, net)
            if len(net) == 0 or circle_of(net, lasts) is not None:
                continue
            self.begin(net, lasts)
            for _ in range(40):
                chance = rng.random()
                if chance < 0.12:
                    self.back()
                elif chance < 0.24:
                    self.forth()
                else:
                    self.do(random_deed(rng, net))
                self.agree_all()
            self.read_anew()
            refused += self.refused
        self.assertGreater(refused, 300)

    def test_all_the_way_back_and_forth(self):
        rng = random.Random(172)
        self.begin(NET, [None, None])
        for _ in range(60):
            self.do(random_deed(rng, NET))
        kept = told_of(self.desk)
        number = len(self.desk.journal())
        for _ in range(number + 1):
            self.back()
            self.agree_all()
        self.agree(self.desk.journal(), [])
        for _ in range(number + 1):
            self.forth()
            self.agree_all()
        self.agree(told_of(self.desk), kept)

    def test_a_hundred_tasks(self):
        rng = random.Random(173)
        net = Net(24, [((node % 23, True), (node % 23 + 1, True)) for node in range(70)] + [((node % 24, True),) for node in range(30)])
        self.begin(net, [None] * 24)
        for task in rng.sample(range(100), 25):
            self.do(("wish", task, rng.choice((1, 4))))
        for _ in range(12):
            self.do(random_deed(rng, net))
            self.agree_all()
        self.read_anew()


class DeskTest(Case):
    def test_a_new_desk(self):
        desk = Desk(net=CHAIN)
        self.agree([desk.load(), desk.lasts(), desk.wishes(), desk.journal()], [(0, 0, 0), (None,) * 3, (0, 0, 0), []])
        self.agree([desk.state(), desk.forecast(), desk.next_runs()], [State(CHAIN, [0, 0, 0]), [], []])
        lasts = [0, 0, None]
        desk = Desk(CHAIN, lasts=lasts)
        lasts[0] = None
        self.agree([desk.lasts(), Desk(CHAIN, (0, 0, 2)).lasts(), Desk(CHAIN, None).lasts()], [(0, 0, None), (0, 0, 2), (None,) * 3])
        # Sound lasts need not be true.
        self.agree(Desk(CHAIN, [0, None, None]).lasts(), (0, None, None))
        self.agree([Desk(EMPTY).load(), Desk(EMPTY).forget(1), Desk(EMPTY).leave(0)], [(), [("forget", 1)], []])

    def test_refusals(self):
        self.refuses_all(InvalidLasts, [value for value in no_lasts_of(CHAIN) if value is not None], lambda lasts: Desk(CHAIN, lasts))
        self.refuses(Circled, {"circle": [(0, 0), (1, 1)]}, Desk, PAIR, [0, 1])
        self.refuses(Circled, {"circle": [(0, 0), (1, 1), (2, 2)]}, Desk, TRIANGLE, [0, 1, 2])


class DeedsTest(Case):
    def desk(self, *deeds):
        return Desk(NET).tried(list(deeds))

    def test_wish(self):
        desk = Desk(NET)
        self.agree([desk.wish(0, 2), desk.load(), desk.wishes()], [[("more", 0)], (1, 0, 0), (1, 0, 0)])
        self.agree([desk.wish(task=1), desk.wish(task=2, number=2)], [[("more", 1)], [("more", 2), ("more", 0), ("more", 2)]])
        self.agree([desk.load(), desk.wishes(), desk.journal()], [(2, 1, 2), (0, 0, 0), ["wish 0 2", "wish 1 1", "wish 2 2"]])
        # The least task that can be taken on comes first, again and again.
        desk = Desk(NET)
        self.agree([desk.wish(2, 3), desk.wish(1, 1), desk.wish(0, 9)],
                   [[("more", 2)], [("more", 1)], [("more", 0), ("more", 0), ("more", 2), ("more", 2)]])
        self.agree([desk.load(), desk.wishes()], [(2, 1, 3), (7, 0, 0)])

    def test_wishes_of_four_hundred(self):
        free = Net(1, [((0, False),), ((0, True),)])
        desk = Desk(free)
        self.agree([desk.wish(1, 400), desk.wish(1, 400)], [[("more", 1)], []])
        self.agree(desk.wish(0, 400), [("more", 0)] * 400 + [("more", 1)] * 400)
        self.agree([desk.load(), desk.wishes()], [(400, 401), (0, 399)])
        self.refuses(TooMany, {"count": 801}, desk.forecast)
        self.agree([desk.strike(1), desk.load(), desk.wishes()], [[("strike", 1)], (400, 400), (0, 0)])
        self.agree([len(desk.leave(0)), desk.load(), desk.journal()[-1]], [800, (0, 0), "leave 0"])

    def test_run(self):
        desk = self.desk(("wish", 2, 2), ("wish", 1, 1), ("wish", 0, 2))
        self.agree([desk.load(), desk.next_runs()], [(2, 1, 2), [0, 2]])
        self.refuses(Spoils, {"node": 0, "task": 0}, desk.run, 1)
        self.agree([desk.run(task=0), desk.load(), desk.lasts()], [[("run", 0)], (1, 1, 2), (0, 0)])
        self.refuses(Barred, {"nodes": [0, 1]}, desk.run, 0)
        self.agree([desk.next_runs(), desk.run(1)], [[1, 2], [("run", 1)]])
        self.refuses(NothingLeft, {"task": 1}, desk.run, 1)
        self.agree(desk.journal(), ["wish 2 2", "wish 1 1", "wish 0 2", "run 0", "run 1"])

    def test_spoils_tells_the_least_end_that_is_urgent(self):
        net = Net(3, [((0, True), (1, False)), ((1, True), (2, True)), ((0, True),), ((2, True),)])
        # Nodes 1 and 2 are both urgent for the task that they share.
        desk = Desk(net).tried([("wish", 0, 1), ("wish", 3, 1), ("wish", 1, 2)])
        self.agree(desk.load(), (1, 2, 0, 1))
        self.refuses(Spoils, {"node": 1, "task": 1}, desk.run, 0)
        self.refuses(Spoils, {"node": 2, "task": 1}, desk.run, 3)
        self.agree(desk.next_runs(), [1])

    def test_strike(self):
        desk = self.desk(("wish", 2, 2), ("wish", 1, 1), ("wish", 0, 4))
        self.agree([desk.load(), desk.wishes(), desk.strike(task=1)], [(2, 1, 2), (2, 0, 0), [("strike", 1), ("strike", 0)]])
        # Wishes for what falls stay, those for the task itself go.
        self.agree([desk.load(), desk.wishes(), desk.strike(0)], [(1, 0, 2), (2, 0, 0), [("strike", 0), ("strike", 2)]])
        self.agree([desk.load(), desk.wishes(), desk.journal()[-2:]], [(0, 0, 1), (0, 0, 0), ["strike 1", "strike 0"]])
        self.refuses(NothingLeft, {"task": 0}, desk.strike, 0)
        # The walk from the lesser end comes first.
        net = Net(3, [((0, True), (1, True)), ((0, True), (1, True)), ((1, True), (2, True)), ((2, False),)])
        desk = Desk(net).tried([("wish", 3, 5), ("wish", 0, 1), ("wish", 1, 9), ("wish", 2, 9)])
        self.agree([desk.load(), desk.wishes()], [(1, 2, 4, 5), (0, 7, 5, 0)])
        self.agree(desk.strike(0), [("strike", 0), ("strike", 1), ("strike", 2), ("strike", 2)])
        self.agree([desk.load(), desk.wishes()], [(0, 1, 2, 5), (0, 7, 5, 0)])

    def test_leave(self):
        desk = self.desk(("wish", 2, 2), ("wish", 1, 1), ("wish", 0, 4))
        self.agree([desk.load(), desk.wishes()], [(2, 1, 2), (2, 0, 0)])
        self.agree(desk.leave(node=0), [("strike", 0), ("strike", 0), ("strike", 1), ("strike", 2)])
        self.agree([desk.load(), desk.wishes(), desk.journal()[-1]], [(0, 0, 1), (0, 0, 0), "leave 0"])
        self.agree([desk.leave(0), desk.journal()[-2:]], [[], ["leave 0", "leave 0"]])
        # Wishes at other nodes stay.
        desk = self.desk(("wish", 2, 5), ("wish", 1, 5))
        self.agree([desk.leave(0), desk.wishes(), desk.load()], [[("strike", 1)], (0, 0, 4), (0, 0, 1)])

    def test_forget(self):
        desk = Desk(NET, [1, 2])
        self.agree([desk.wish(1), desk.load(), desk.forget(node=0)], [[], (0, 0, 0), [("forget", 0), ("more", 1)]])
        self.agree([desk.lasts(), desk.load(), desk.wishes()], [(None, 2), (0, 1, 0), (0, 0, 0)])
        # It is told and counts, also if there is no last.
        self.agree([desk.forget(0), desk.journal()], [[("forget", 0)], ["wish 1 1", "forget 0", "forget 0"]])

    def test_refusals_in_order(self):
        desk = self.desk(("wish", 1, 1))
        before = told_of(desk)
        self.refuses_all(InvalidTask, no_tasks_of(NET), lambda task: desk.wish(task, None))
        self.refuses_all(InvalidNumber, NO_NUMBERS, lambda number: desk.wish(0, number))
        self.refuses_all(InvalidTask, no_tasks_of(NET), desk.run)
        self.refuses_all(InvalidTask, no_tasks_of(NET), desk.strike)
        self.refuses_all(InvalidNode, no_nodes_of(NET), desk.leave)
        self.refuses_all(InvalidNode, no_nodes_of(NET), desk.forget)
        self.refuses(NothingLeft, {"task": 0}, desk.run, 0)
        # A task that is not left is so, whether it is barred or not.
        self.refuses(NothingLeft, {"task": 1}, Desk(NET, [1, None]).run, 1)
        self.agree([told_of(desk), desk.journal()], [before, ["wish 1 1"]])

    def test_a_deed_that_is_refused_drops_nothing_that_can_be_done_again(self):
        desk = self.desk(("wish", 1, 1), ("wish", 2, 1))
        desk.undo()
        for call in (lambda: desk.run(0), lambda: desk.wish(0, 0), lambda: desk.strike(2), lambda: desk.leave(9)):
            self.assertRaises(OtherError, call)
        desk.redo()
        self.agree([desk.load(), desk.journal()], [(0, 1, 1), ["wish 1 1", "wish 2 1"]])

    def test_lists_are_new(self):
        desk = self.desk(("wish", 1, 1), ("wish", 0, 1))
        self.new_each_time(desk.journal)
        self.new_each_time(desk.next_runs)
        self.new_each_time(desk.forecast)
        told = desk.wish(2)
        told.append("changed")
        self.agree(desk.journal(), ["wish 1 1", "wish 0 1", "wish 2 1"])


class BackAndForthTest(Case):
    def test_both_ends(self):
        desk = Desk(NET)
        self.refuses(NothingToUndo, {}, desk.undo)
        self.refuses(NothingToRedo, {}, desk.redo)
        desk.wish(1)
        desk.wish(1)
        self.refuses(NothingToRedo, {}, desk.redo)
        self.agree([desk.undo(), desk.wishes(), desk.undo(), desk.load(), desk.journal()], [None, (0, 0, 0), None, (0, 0, 0), []])
        self.refuses(NothingToUndo, {}, desk.undo)
        self.agree([desk.redo(), desk.load(), desk.redo(), desk.wishes()], [None, (0, 1, 0), None, (0, 1, 0)])
        self.refuses(NothingToRedo, {}, desk.redo)

    def test_a_new_deed_drops_what_could_be_done_again(self):
        desk = Desk(NET)
        desk.wish(1)
        desk.wish(2)
        desk.undo()
        desk.forget(0)
        self.refuses(NothingToRedo, {}, desk.redo)
        self.agree([desk.journal(), desk.load()], [["wish 1 1", "forget 0"], (0, 1, 0)])
        desk.undo()
        desk.redo()
        self.agree(desk.journal(), ["wish 1 1", "forget 0"])

    def test_a_deed_that_changes_nothing_counts(self):
        desk = Desk(NET)
        desk.leave(0)
        desk.forget(1)
        self.agree(desk.journal(), ["leave 0", "forget 1"])
        desk.undo()
        desk.undo()
        self.refuses(NothingToUndo, {}, desk.undo)

    def test_undo_and_redo_do_not_count(self):
        desk = Desk(NET)
        desk.wish(1)
        desk.undo()
        desk.redo()
        desk.undo()
        self.agree(desk.journal(), [])
        self.refuses(NothingToUndo, {}, desk.undo)


class TriedTest(Case):
    def test_the_first_desk_stays_as_it_is(self):
        desk = Desk(NET)
        desk.wish(0)
        desk.wish(1)
        before = told_of(desk)
        other = desk.tried(deeds=[("wish", 2, 1), ("run", 0), ("strike", 1), ("leave", 1), ("forget", 0)])
        self.agree(told_of(desk), before)
        self.agree(other.journal(), ["wish 0 1", "wish 1 1", "wish 2 1", "run 0", "strike 1", "leave 1", "forget 0"])
        for _ in range(7):
            other.undo()
        self.refuses(NothingToUndo, {}, other.undo)
        for _ in range(7):
            other.redo()
        other.wish(1, 3)
        self.agree(told_of(desk), before)
        desk.wish(2)
        self.agree(other.journal()[-1], "wish 1 3")
        self.agree(desk.journal(), ["wish 0 1", "wish 1 1", "wish 2 1"])

    def test_what_could_be_done_again(self):
        desk = Desk(NET)
        desk.wish(0)
        desk.wish(1)
        desk.undo()
        for deeds in ([], ()):
            same_one = desk.tried(deeds)
            self.assertTrue(same_one == desk)
            same_one.redo()
            self.agree([same_one.journal(), desk.journal()], [["wish 0 1", "wish 1 1"], ["wish 0 1"]])
        other = desk.tried([("forget", 0)])
        self.refuses(NothingToRedo, {}, other.redo)
        desk.redo()
        self.agree(desk.journal(), ["wish 0 1", "wish 1 1"])

    def test_lasts_with_which_it_began(self):
        desk = Desk(NET, [1, None])
        other = desk.tried([("forget", 0)])
        self.agree([other.lasts(), other.undo(), other.lasts()], [(None, None), None, (1, None)])

    def test_refusals(self):
        desk = Desk(NET)
        desk.wish(1)
        before = told_of(desk)
        wrong = [None, True, 0, "", "wish", {}, desk, [None], [()], [[]], ["wish"], [("wish",)], [("wish", 0)], [("wish", 0, 1, 2)],
                 [("run",)], [("run", 0, 0)], [("strike",)], [("leave", 0, 1)], [("forget",)], [("undo",)], [("undo", 0)],
                 [["run", 0]], [("more", 0)], [("Run", 0)], [(0, 0)], [(None, 0)], [([], 0)], ("run", 0), [("run", 9), None],
                 [("wish", 1, 1), ("wish", 1)], [("run ", 0)], [(b"run", 0)], [({}, 0)], [(True, 0)]]
        self.refuses_all(InvalidDeeds, wrong, desk.tried)
        for value in any_values():
            if value not in ([], ()):
                self.refuses_all(InvalidDeeds, [[value]], desk.tried)
        # Any values will do for the form; then the first deed that raises an error counts.
        for value in any_values():
            if not (isinstance(value, int) and not isinstance(value, bool) and value in (0, 1, 2)):
                self.refuses_all(InvalidTask, [value], lambda task: desk.tried([("wish", 1, 1), ("wish", task, None)]))
                self.refuses_all(InvalidTask, [value], lambda task: desk.tried([("strike", task)]))
        self.refuses(NothingLeft, {"task": 0}, desk.tried, [("wish", 1, 1), ("run", 0), ("leave", 9)])
        self.refuses(InvalidNode, {"given": 9}, desk.tried, [("wish", 1, 1), ("leave", 9), ("run", 0)])
        self.refuses(InvalidNumber, {"given": 0}, desk.tried, [("wish", 1, 0)])
        # What is barred there is not barred here.
        self.refuses(Barred, {"nodes": [0]}, desk.tried, [("wish", 2, 1), ("wish", 0, 1), ("wish", 1, 1), ("run", 1), ("run", 1)])
        self.agree(told_of(desk), before)


class QuestionsTest(Case):
    def test_forecast(self):
        desk = Desk(NET).tried([("wish", 2, 2), ("wish", 1, 1), ("wish", 0, 2), ("run", 0)])
        self.agree(desk.forecast(), [1, 2, 0, 2])
        free = Net(1, [((0, False),)])
        self.agree(Desk(free).tried([("wish", 0, 400)]).forecast(), [0] * 400)
        self.refuses(TooMany, {"count": 401}, Desk(free).tried([("wish", 0, 400), ("wish", 0, 1)]).forecast)

    def test_greatest_within(self):
        desk = Desk(NET, [0, 0])
        self.agree([desk.greatest_within(bounds=[9, 1, 9]), desk.greatest_within((LONG, 0, LONG))], [(1, 1, 2), (0, 0, 1)])
        rng = random.Random(174)
        for _ in range(60):
            net = random_net(rng)
            lasts = random_lasts(rng, net)
            if circle_of(net, lasts) is None:
                bounds = [rng.choice((0, 1, 3, LONG)) for _ in range(len(net))]
                self.agree(Desk(net, lasts).greatest_within(bounds), greatest(net, lasts, bounds))
        self.refuses_all(InvalidBounds, no_loads_of(NET), desk.greatest_within)
        self.agree(desk.journal(), [])

    def test_next_runs_are_what_run_would_run(self):
        rng = random.Random(175)
        for _ in range(80):
            net = random_net(rng)
            if len(net) == 0:
                continue
            desk = Desk(net)
            for _ in range(6):
                desk.wish(rng.randrange(len(net)), rng.randint(1, 3))
                for task in desk.next_runs()[:1]:
                    desk.run(task)
            for task in range(len(net)):
                try:
                    reached = desk.tried([("run", task)])
                except OtherError:
                    self.assertNotIn(task, desk.next_runs())
                else:
                    self.assertIn(task, desk.next_runs())
                    self.agree(reached.state(), run_task(desk.state(), task))


class EqualTest(Case):
    def test_equal_desks(self):
        one = Desk(NET)
        other = Desk(NET, [None, None])
        self.assertTrue(one == other and not one != other)
        one.wish(1)
        self.assertTrue(one != other)
        other.wish(1, 1)
        self.assertTrue(one == other)
        # Whatever they could do again.
        other.wish(2)
        other.undo()
        self.assertTrue(one == other)

    def test_unequal_desks(self):
        base = Desk(NET).tried([("wish", 1, 1)])
        self.assertTrue(base != Desk(NET).tried([("forget", 0)]))
        # Equal states, but other journals.
        self.assertTrue(Desk(NET).tried([("forget", 0)]) != Desk(NET) and Desk(NET).tried([("leave", 0)]) != Desk(NET).tried([("leave", 1)]))
        # Equal journals, but other wishes or lasts.
        self.assertTrue(Desk(NET, [1, None]).tried([("wish", 1, 1)]) != Desk(NET).tried([("wish", 1, 1)]))
        self.assertTrue(Desk(NET, [1, None]) != Desk(NET))
        # Equal in all but the net.
        self.assertTrue(Desk(NET) != Desk(Net(2, [((0, True), (1, True)), ((0, False),), ((1, True),)])))
        self.assertFalse(Desk(NET) == NET or Desk(NET) == State(NET, [0, 0, 0]) or Desk(NET) is None or Desk(NET) == [])
        self.assertTrue(State(NET, [0, 0, 0]) != Desk(NET) and NET != Desk(NET))

    def test_a_deed_taken_back_and_done_again(self):
        rng = random.Random(176)
        for _ in range(40):
            net = random_net(rng)
            if len(net) == 0:
                continue
            desk = Desk(net)
            for _ in range(12):
                try:
                    desk = desk.tried([random_deed(rng, net)])
                except OtherError:
                    continue
                other = desk.tried([])
                other.undo()
                self.assertTrue(other != desk)
                other.redo()
                self.assertTrue(other == desk)
                self.agree(told_of(other), told_of(desk))

    def test_rows_of_other_nets(self):
        self.agree(Desk(ROW).tried([("wish", 1, 3), ("run", 1)]).lasts(), (None, 1, 1))


if __name__ == "__main__":
    unittest.main()
