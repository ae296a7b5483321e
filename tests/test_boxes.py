"""Points [101] and [105]: loads between two, and waivers."""

import itertools
import unittest

from otherfirst.boxes import fate_between, is_fate_between, waived, waivers
from otherfirst.decide import can_be_done
from otherfirst.errors import Circled, InvalidEnds, InvalidLasts, InvalidLoad, NotAbove
from otherfirst.greatest import is_reasons, reasons
from otherfirst.nets import Net
from otherfirst.rings import rings
from otherfirst.states import State, too_often
from tests import judge
from tests.helpers import EMPTY, LONG, PAIR, ROW, TRIANGLE, Case, all_states, any_values, lasts_of, no_lasts_of
from tests.helpers import no_loads_of, random_states, small_nets

CHAIN = Net(3, [((0, True), (1, True)), ((1, True), (2, True)), ((2, True),)])
FRESH = [None, None, None]
OWNED = Net(2, list(PAIR.tasks) + [((0, False),)])


def boxes(net, most):
    loads = judge.within([most] * len(net))
    return [(low, high) for low in loads for high in loads if all(a <= b for a, b in zip(low, high))]


def fate(net, lasts, low, high):
    """The loads between that can be done, and those that cannot."""
    loads = judge.between(low, high)
    done = [load for load in loads if judge.done(net, load, lasts)]
    return done, [load for load in loads if load not in done]


class FateBetweenTest(Case):
    def test_a_search_of_all_loads_between_agrees(self):
        seen = {"sure": 0, "never": 0, "open": 0}
        for net in small_nets(101, 14, most_tasks=3):
            for lasts in lasts_of(net)[::2]:
                for low, high in boxes(net, 2)[::3]:
                    seen[self.check(net, lasts, low, high)] += 1
        self.assertGreater(min(seen.values()), 300)

    def check(self, net, lasts, low, high):
        done, wrong = fate(net, lasts, low, high)
        found = fate_between(net, lasts, low, high)
        if wrong == []:
            self.agree(found, ("sure",))
        elif done == []:
            word, task, told = found
            self.agree([word, is_reasons(net, lasts, high, told)], ["never", True])
            self.assertTrue([value < low[task] for other, value, _ in told if other == task][0])
        else:
            word, one, other = found
            self.agree([word, one in done, other in wrong], ["open", True, True])
        self.agree(is_fate_between(net, lasts, low, high, found), True)
        self.agree(fate_between(net, list(lasts), list(low), list(high)), found)
        for value in (("sure",), ("open", done[-1] if done else low, (wrong or [high])[0])):
            self.agree(is_fate_between(net, lasts, low, high, value), value[0] == found[0])
        return found[0]

    def test_fate_between(self):
        self.agree(fate_between(CHAIN, FRESH, [0, 0, 0], [1, 0, 1]), ("sure",))
        self.agree(fate_between(net=CHAIN, lasts=FRESH, low=(0, 2, 0), high=(1, 3, 0))[:2], ("never", 1))
        self.agree([fate_between(EMPTY, [None, None], [], []), fate_between(CHAIN, FRESH, [0] * 3, [0] * 3)],
                   [("sure",), ("sure",)])
        word, one, other = self.unchanged(fate_between, CHAIN, FRESH, [0, 0, 0], [1, 2, 0])
        self.agree([word, type(one), type(other)], ["open", tuple, tuple])
        self.new_each_time(lambda: fate_between(CHAIN, FRESH, [0, 2, 0], [1, 3, 0])[2])

    def test_great_counts(self):
        self.agree(fate_between(OWNED, [None, None], [0, 0, 0], [LONG, LONG, LONG])[0], "open")
        self.agree(fate_between(OWNED, [None, None], [LONG - 1, LONG - 1, 5], [LONG, LONG, 9]), ("sure",))
        self.agree(fate_between(OWNED, [0, None], [LONG - 1, LONG - 1, 0], [LONG, LONG, 9])[0], "open")
        self.agree(fate_between(OWNED, [None, None], [0, LONG, 0], [LONG - 2, LONG, 9])[:2], ("never", 1))

    def test_refusals(self):
        self.refuses_in_order(fate_between, [("lasts", FRESH, [None] * 4, InvalidLasts), ("low", [0, 0, 0], [1], InvalidLoad),
                                             ("high", [1, 1, 1], [2], InvalidLoad)], net=CHAIN)
        self.refuses_all(InvalidLasts, no_lasts_of(ROW), lambda lasts: fate_between(ROW, lasts, None, None))
        self.refuses_all(InvalidLoad, no_loads_of(CHAIN), lambda low: fate_between(CHAIN, FRESH, low, [0, 0, 0]))
        self.refuses_all(InvalidLoad, no_loads_of(CHAIN), lambda high: fate_between(CHAIN, FRESH, [9, 9, 9], high))
        self.refuses(NotAbove, {"task": 1}, fate_between, CHAIN, FRESH, [0, 2, 3], [1, 1, 0])
        self.refuses(NotAbove, {"task": 0}, fate_between, PAIR, [0, 1], [LONG, 0], [LONG - 1, 0])
        self.refuses(Circled, {"circle": [(0, 0), (1, 1)]}, fate_between, PAIR, [0, 1], [0, 0], [1, 1])
        self.refuses(Circled, {"circle": [(0, 0), (1, 1)]}, fate_between, PAIR, [0, 1], [0, 0], [0, 0])
        self.refuses(Circled, {"circle": [(0, 0), (1, 1)]}, fate_between, PAIR, [0, 1], [9, 0], [9, 0])


class IsFateBetweenTest(Case):
    def test_sure_and_open_whatever_the_lasts(self):
        closed = 0
        for net in [OWNED] + small_nets(102, 8, most_tasks=3):
            for lasts in lasts_of(net, sound=False)[::2]:
                for low, high in boxes(net, 2)[::5]:
                    done, wrong = fate(net, lasts, low, high)
                    self.agree(is_fate_between(net, lasts, low, high, ("sure",)), wrong == [])
                    fine = [load for load in wrong if judge.often(net, load, lasts) == []]
                    closed += wrong != [] and len(fine) == len(wrong)
                    for one, other in itertools.product(judge.between(low, high)[:4], repeat=2):
                        self.agree(is_fate_between(net, lasts, low, high, ("open", one, other)),
                                   one in done and other in wrong)
        # In some of these boxes rings alone are in the way.
        self.assertGreater(closed, 5)

    def test_rings_in_a_box(self):
        lasts = [0, 1]
        for low, high, wanted in [
            ([1, 1, 0], [1, 1, 0], False), ([1, 1, 1], [1, 1, 5], True), ([0, 0, 0], [0, 0, 9], True),
            ([2, 1, 1], [2, 1, 1], True), ([3, 3, 0], [3, 3, 1], False), ([3, 3, 1], [3, 3, 4], True),
            ([2, 3, 0], [2, 3, 0], False), ([LONG, LONG, 0], [LONG, LONG, 0], False), ([0, 0, 0], [1, 1, 0], False),
        ]:
            done, wrong = fate(OWNED, lasts, low, high) if high[0] < 9 else ([], [high])
            self.agree(is_fate_between(OWNED, lasts, low, high, ("sure",)), wanted)
            self.assertEqual(wrong == [], wanted)
        # Here no end minds, so that nothing is ever barred.
        free = Net(2, [((0, False), (1, False)), ((0, False), (1, False))])
        self.agree(is_fate_between(free, lasts, [1, 1], [2, 2], ("sure",)), True)
        half = Net(2, [((0, True), (1, True)), ((0, True), (1, False))])
        self.agree(is_fate_between(half, lasts, [1, 1], [1, 1], ("sure",)), True)

    def test_never(self):
        low, high = [0, 2, 0], [1, 3, 0]
        told = [(2, 0, None), (0, 1, None), (1, 1, 2)]
        self.agree([is_fate_between(net=CHAIN, lasts=FRESH, low=low, high=high, value=("never", 1, rows))
                    for rows in (told, tuple(told), reasons(CHAIN, FRESH, high))], [True] * 3)
        for value in [
            ("never", 0, told), ("never", 2, told), ("never", 3, told), ("never", -2, told), ("never", True, told),
            ("never", None, told), ("never", 1.0, told), ["never", 1, told], ("never", 1), ("never", 1, told, 0),
            ("never", 1, told[1:]), ("never", 1, told[::-1]), ("never", 1, None), ("never", 1, []), ("open", 1, told),
            ("never", 1, [(2, 0, None), (0, 1, None), (1, 2, 1)]), ("never", 1, told[:2] + [[1, 1, 2]]), ("never",),
            ("never", 1, told[:2] + [(1, True, 2)]),
        ]:
            self.agree(is_fate_between(CHAIN, FRESH, low, high, value), False)
        self.agree(is_fate_between(CHAIN, FRESH, [0, 1, 0], high, ("never", 1, told)), False)
        self.agree(is_fate_between(CHAIN, FRESH, low, [2, 3, 0], ("never", 1, told)), False)

    def test_never_whatever_the_lasts(self):
        # Nothing can be done here for the ring alone, and no reasons show it.
        for task in range(2):
            self.agree(is_fate_between(PAIR, [0, 1], [1, 1], [1, 1], ("never", task, reasons(PAIR, FRESH[:2], [1, 1]))),
                       False)
        self.agree(is_fate_between(PAIR, [0, 1], [1, 2], [1, 2], ("never", 1, [(0, 1, None), (1, 1, 1)])), True)

    def test_open(self):
        low, high = [0, 0, 0], [1, 2, 0]
        for value in [("open", (1, 1, 0), (0, 2, 0)), ("open", [1, 1, 0], [0, 2, 0]), ("open", (0, 0, 0), [1, 2, 0])]:
            self.agree(is_fate_between(CHAIN, FRESH, low, high, value), True)
        for value in [
            ("open", (1, 1, 0), (1, 1, 0)), ("open", (0, 2, 0), (1, 1, 0)), ("open", (0, 2, 0), (0, 2, 0)),
            ("open", (1, 1, 1), (0, 2, 0)), ("open", (1, 1, 0), (2, 0, 0)), ("open", (1, 1, 0), (0, 3, 0)),
            ("open", (1, 1), (0, 2, 0)), ("open", (1, 1, 0), (0, 2)), ("open", (True, 1, 0), (0, 2, 0)),
            ("open", (1, 1, 0), (False, 2, 0)), ["open", (1, 1, 0), (0, 2, 0)], ("open", (1, 1, 0)), ("open",),
            ("open", None, (0, 2, 0)), ("open", (1, 1, 0), None), ("sure", (1, 1, 0), (0, 2, 0)), ("sure",), ("never",),
            ("open", (1, 1, 0), (0, 2, 0), 0), (None, (1, 1, 0), (0, 2, 0)), ("open", (1, 1, 0.0), (0, 2, 0)),
            ("", (1, 1, 0), (0, 2, 0)), ("open", (0, -1, 0), (0, 2, 0)),
        ]:
            self.agree(is_fate_between(CHAIN, FRESH, low, high, value), False)
        self.agree([is_fate_between(CHAIN, FRESH, [1, 0, 0], high, ("open", one, (1, 2, 0)))
                    for one in ((0, 0, 0), (1, 0, 0))], [False, True])
        # What cannot be done may be so for a ring.
        self.agree(is_fate_between(OWNED, [0, 1], [1, 1, 0], [1, 1, 1], ("open", (1, 1, 1), (1, 1, 0))), True)

    def test_sure(self):
        self.agree([is_fate_between(CHAIN, FRESH, [0] * 3, [1, 0, 1], value)
                    for value in (("sure",), ["sure"], "sure", ("sure", None), (), ("sure", 1, 2), ("Sure",), (None,))],
                   [True] + [False] * 7)
        self.agree(is_fate_between(CHAIN, FRESH, [0] * 3, [1, 2, 1], ("sure",)), False)

    def test_any_value(self):
        for value in any_values():
            for word in ("sure", "never", "open"):
                for made in (value, (word, value), (word, value, value), (word, 1, value), (word, (1, 1, 0), value),
                             (word, value, (0, 2, 0)), (value, (1, 1, 0), (0, 2, 0)), (value,)):
                    self.agree(is_fate_between(CHAIN, FRESH, [0] * 3, [1, 2, 0], made), False)

    def test_refusals(self):
        for value in (None, ("sure",)):
            self.refuses_in_order(is_fate_between, [
                ("lasts", FRESH, [None] * 4, InvalidLasts), ("low", [0, 0, 0], [1], InvalidLoad),
                ("high", [1, 1, 1], [2], InvalidLoad)], net=CHAIN, value=value)
            self.refuses_all(InvalidLasts, no_lasts_of(ROW), lambda lasts: is_fate_between(ROW, lasts, None, None, value))
            self.refuses_all(InvalidLoad, no_loads_of(CHAIN), lambda low: is_fate_between(CHAIN, FRESH, low, [0] * 3, value))
            self.refuses_all(InvalidLoad, no_loads_of(CHAIN), lambda high: is_fate_between(CHAIN, FRESH, [9] * 3, high, value))
            self.refuses(NotAbove, {"task": 1}, is_fate_between, CHAIN, FRESH, [0, 2, 3], [1, 1, 0], value)
            self.refuses(NotAbove, {"task": 0}, is_fate_between, PAIR, [0, 1], [2, 0], [1, 0], value)


class WaiversTest(Case):
    def test_waivers(self):
        self.agree(waivers(State(CHAIN, [2, 0, 0])), ([(0, 0), (1, 0)], []))
        self.agree(waivers(state=State(PAIR, [1, 1], [0, 1])), ([], [[(0, 0), (1, 1)]]))
        self.agree(waivers(State(EMPTY, [])), ([], []))
        self.agree(waivers(State(CHAIN, [LONG, LONG, LONG])), ([(0, 0)], []))
        state = State(PAIR, [1, 1], [0, 1])
        for part in (lambda: waivers(state)[0], lambda: waivers(state)[1], lambda: waivers(state)[1][0]):
            self.new_each_time(part)

    def test_fewer_are_not_enough(self):
        seen = {}
        both = Net(3, list(PAIR.tasks) + [((2, True),)])
        for state in all_states(PAIR, 2) + all_states(both, 2)[::3] + random_states(105, 150, most_nodes=3, none=0.1):
            net = state.net
            often, closed = waivers(state)
            self.agree([often, closed], [judge.often(net, state.load, state.lasts), rings(state)])
            for choice in itertools.product(*closed):
                self.assertTrue(self.done(state, often + list(choice)))
            many = len(often) + len(closed)
            if many:
                ends = [(node, task) for task, marks in enumerate(net.tasks) for node, minds in marks if minds]
                for fewer in itertools.combinations(ends, many - 1):
                    self.assertFalse(self.done(state, fewer))
            seen[len(often), len(closed)] = True
        self.assertGreater(len(seen), 4)

    def done(self, state, ends):
        other = waived(state, ends)
        return judge.done(other.net, other.load, other.lasts)


class WaivedTest(Case):
    def test_waived(self):
        state = State(CHAIN, [2, 0, 5], [0, 0, 2])
        for ends, line in (([], "3: 0!1! 1!2! 2!"), ([(1, 0), (0, 0)], "3: 0?1? 1!2! 2!"), (((2, 2),), "3: 0!1! 1!2! 2?"),
                           ([(2, 1), (0, 0), (2, 2)], "3: 0?1! 1!2? 2?")):
            found = waived(state, ends)
            self.agree([found.net.line(), found.load, found.lasts], [line, (2, 0, 5), (0, 0, 2)])
        self.agree(waived(state=State(ROW, [1, 1, 1]), ends=[(1, 1)]).net.line(), "3: 0!1! 1?2? 2!")
        self.unchanged(waived, state, [(1, 0), (0, 0)])
        self.agree(state.net.line(), "3: 0!1! 1!2! 2!")

    def test_refusals(self):
        state = State(ROW, [1, 1, 1])
        self.refuses_all(InvalidEnds, [
            None, True, 0, "", {}, ROW, [None], [0], [(0,)], [(0, 0, 0)], [[0, 0]], [(0, 0), [1, 0]], [(0, 0), (0, 0)],
            [(1, 1), (0, 0), (1, 1)], [(2, 1)], [(0, 1)], [(2, 0)], [(3, 0)], [(-1, 0)], [(0, 3)], [(0, -3)], [(True, 1)],
            [(1, True)], [(False, 0)], [(0, False)], [(0, None)], [(None, 0)], [("0", 0)], [(0, 0.0)], [(0, 0), (2, 1)],
        ], lambda ends: waived(state, ends))


class AgreementTest(Case):
    def test_what_cannot_be_done_is_often_or_rings(self):
        for state in all_states(TRIANGLE, 1):
            self.assertEqual(waivers(state) == ([], []), can_be_done(state))
            self.agree(waivers(state), (too_often(state), rings(state)))


if __name__ == "__main__":
    unittest.main()
