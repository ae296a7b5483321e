"""Points [102], [103] and [104]: lasts that are known in part."""

import itertools
import unittest

from otherfirst.errors import FalseLasts, InvalidKnown, InvalidLasts, InvalidNode, NeverLast, NotAnEnd
from otherfirst.nets import Net
from otherfirst.partial import fate_known, full_lasts, last_could_be
from otherfirst.states import State
from tests import judge
from tests.helpers import EMPTY, LONG, PAIR, ROW, TRIANGLE, Case, any_values, no_lasts_of, no_nodes_of, small_nets

CHAIN = Net(3, [((0, True), (1, True)), ((1, True), (2, True)), ((2, True),)])
FRESH = [None, None, None]
SURE = [True, True, True]
NO_KNOWN = [None, True, 0, "", {}, CHAIN, [], [True, True], [True] * 4, (False,) * 4, [True, True, None], [1, True, True],
            [True, 0, True], [True, True, "True"], [[True], True, True], [True, True, 1.0]]


def cases(seed, number):
    """Tuples of a net, lasts, known ones, and all true lasts that agree."""
    found = []
    for net in [TRIANGLE, PAIR, CHAIN] + small_nets(seed, number)[4:]:
        true = judge.true_lasts(net)
        for known in itertools.product((True, False), repeat=net.nodes):
            for lasts in judge.all_lasts(net)[::2]:
                agreeing = [row for row in true
                            if all(row[node] == lasts[node] for node in range(net.nodes) if known[node])]
                found.append((net, lasts, known, agreeing))
    return found


def false_reason(net, lasts, known):
    """The words of point [102]."""
    def far(node):
        if not known[node] or lasts[node] is None:
            return None
        others = [end for end in net.ends(lasts[node]) if end != node]
        return others[0] if others else None

    for node in range(net.nodes):
        if far(node) is not None and known[far(node)] and lasts[far(node)] is None:
            return ("bare", node)
    for start in range(net.nodes):
        way = [start]
        while far(way[-1]) is not None and far(way[-1]) not in way:
            way.append(far(way[-1]))
        if len(way) > 1 and far(way[-1]) == start and len({lasts[node] for node in way}) == len(way):
            return ("circle", [(node, lasts[node]) for node in way])
    return None


class FullLastsTest(Case):
    def test_a_search_of_all_true_lasts_agrees(self):
        false = {"bare": 0, "circle": 0}
        for net, lasts, known, agreeing in cases(102, 25):
            reason = false_reason(net, lasts, known)
            self.assertEqual(reason is None, agreeing != [])
            if reason is None:
                found = full_lasts(net, lasts, known)
                self.assertIn(found, agreeing)
                self.agree([full_lasts(net, list(lasts), list(known)), type(found)], [found, tuple])
            else:
                self.refuses(FalseLasts, {"reason": reason}, full_lasts, net, lasts, known)
                false[reason[0]] += 1
        self.assertGreater(min(false.values()), 10)

    def test_full_lasts(self):
        self.agree(full_lasts(CHAIN, [0, 0, 1], [True, True, False])[:2], (0, 0))
        self.agree(full_lasts(net=CHAIN, lasts=(0, 0, 2), known=(True, True, True)), (0, 0, 2))
        self.agree(full_lasts(EMPTY, [None, None], [False, True]), (None, None))
        self.unchanged(full_lasts, CHAIN, [0, 0, 1], [True, True, False])

    def test_what_the_others_had_means_nothing(self):
        wanted = full_lasts(CHAIN, [0, None, None], [True, False, True])
        for last in (0, 1):
            self.agree(full_lasts(CHAIN, [0, last, None], [True, False, True]), wanted)
        # A circle, or a bare node, that goes through a node which is not known.
        self.agree(full_lasts(PAIR, [0, 1], [True, False]), (0, 0))
        self.agree(full_lasts(PAIR, [0, None], [True, False]), (0, 0))

    def test_two_nodes_look_at_one_that_is_not_known(self):
        star = Net(4, [((0, True), (1, True)), ((0, True), (2, True)), ((0, True), (3, True))])
        found = full_lasts(star, [None, 0, 1, 2], [False, True, True, True])
        self.assertIn(found, judge.true_lasts(star))

    def test_the_first_reason_counts(self):
        both = Net(4, list(PAIR.tasks) + [((2, True), (3, True))])
        self.refuses(FalseLasts, {"reason": ("bare", 2)}, full_lasts, both, [0, 1, 2, None], [True] * 4)
        self.refuses(FalseLasts, {"reason": ("circle", [(0, 0), (1, 1)])}, full_lasts, both, [0, 1, 2, None],
                     [True, True, True, False])
        self.agree(full_lasts(both, [0, 1, 2, None], [True, False, True, False]), (0, 0, 2, 2))
        two = Net(4, list(PAIR.tasks) + [((2, True), (3, True)), ((2, True), (3, True))])
        self.refuses(FalseLasts, {"reason": ("circle", [(0, 0), (1, 1)])}, full_lasts, two, [0, 1, 3, 2], [True] * 4)
        self.refuses(FalseLasts, {"reason": ("circle", [(2, 3), (3, 2)])}, full_lasts, two, [0, 1, 3, 2],
                     [False, True, True, True])

    def test_refusals(self):
        self.refuses_in_order(full_lasts, [("lasts", FRESH, [None] * 4, InvalidLasts),
                                           ("known", SURE, [True], InvalidKnown)], net=CHAIN)
        self.refuses_all(InvalidLasts, no_lasts_of(ROW), lambda lasts: full_lasts(ROW, lasts, [False] * 3))
        self.refuses_all(InvalidKnown, NO_KNOWN, lambda known: full_lasts(CHAIN, [0, None, None], known))
        self.refuses_all(InvalidKnown, any_values()[:-1], lambda known: full_lasts(CHAIN, FRESH, known))


class LastCouldBeTest(Case):
    def test_a_search_of_all_true_lasts_agrees(self):
        ways = {}
        for net, lasts, known, agreeing in cases(103, 12):
            for node in range(net.nodes):
                for task in net.at(node):
                    kind = self.check(net, lasts, known, node, task, agreeing)
                    ways[kind] = ways.get(kind, 0) + 1
        self.assertTrue(set(ways) >= {"false", "could", 1, 2, 3}, ways)

    def check(self, net, lasts, known, node, task, agreeing):
        if agreeing == []:
            self.refuses(FalseLasts, {"reason": false_reason(net, lasts, known)}, last_could_be, net, lasts, known, node,
                         task)
            return "false"
        right = [row for row in agreeing if row[node] == task]
        if right:
            self.assertIn(last_could_be(net, lasts, known, node, task), right)
            self.agree(last_could_be(net, list(lasts), list(known), node, task),
                       last_could_be(net, lasts, known, node, task))
            return "could"
        way = self.way(net, lasts, known, node, task)
        self.refuses(NeverLast, {"way": way}, last_could_be, net, lasts, known, node, task)
        return len(way)

    def way(self, net, lasts, known, node, task):
        """The words of point [103]."""
        if known[node]:
            self.assertNotEqual(lasts[node], task)
            return [node]
        far, = [end for end in net.ends(task) if end != node]
        self.assertTrue(known[far])
        way = [far]
        while lasts[far] is not None and way[-1] != node:
            self.assertTrue(known[way[-1]])
            self.assertNotEqual(lasts[way[-1]], task)
            way += [end for end in net.ends(lasts[way[-1]]) if end != way[-1]]
        return way

    def test_last_could_be(self):
        self.agree(last_could_be(CHAIN, [0, None, 2], [True, False, True], 1, 1), (0, 1, 2))
        self.agree(last_could_be(net=CHAIN, lasts=[0, 0, 2], known=[True] * 3, node=2, task=2), (0, 0, 2))
        self.refuses(NeverLast, {"way": [2]}, last_could_be, CHAIN, [0, None, None], [True, False, True], 1, 1)
        self.refuses(NeverLast, {"way": [1]}, last_could_be, CHAIN, [0, 0, None], [True, True, False], 1, 1)
        self.refuses(NeverLast, {"way": [0]}, last_could_be, CHAIN, FRESH, [True, False, False], 0, 0)
        self.refuses(NeverLast, {"way": [1, 2, 0]}, last_could_be, TRIANGLE, [None, 1, 2], [False, True, True], 0, 0)
        self.agree(last_could_be(TRIANGLE, [0, 1, 2], [False, True, True], 0, 2), (2, 1, 2))
        self.agree(last_could_be(TRIANGLE, [None, 1, 2], [False, True, False], 0, 0)[:2], (0, 1))
        self.new_each_time(lambda: self.refuses(NeverLast, {"way": [1, 2, 0]}, last_could_be, TRIANGLE, [None, 1, 2],
                                                [False, True, True], 0, 0).way)
        self.unchanged(last_could_be, CHAIN, [0, None, 2], [True, False, True], 1, 1)

    def test_refusals(self):
        self.refuses_in_order(last_could_be, [
            ("lasts", FRESH, [None] * 4, InvalidLasts), ("known", [False] * 3, [True], InvalidKnown),
            ("node", 0, 3, InvalidNode)], net=CHAIN, task=9)
        self.refuses_all(InvalidLasts, no_lasts_of(ROW), lambda lasts: last_could_be(ROW, lasts, SURE, 0, 0))
        self.refuses_all(InvalidKnown, NO_KNOWN, lambda known: last_could_be(CHAIN, FRESH, known, 0, 0))
        self.refuses_all(InvalidNode, no_nodes_of(CHAIN), lambda node: last_could_be(CHAIN, [0, None, None], SURE, node, 9))

    def test_not_an_end_comes_ahead_of_false_lasts(self):
        for task in [1, 2, 3, -1, LONG, None, True, False, "0", [], {}, [0], (0,), 0.0, CHAIN]:
            self.refuses(NotAnEnd, {"task": task, "node": 0}, last_could_be, CHAIN, [0, None, None], SURE, 0, task)
        self.refuses(FalseLasts, {"reason": ("bare", 0)}, last_could_be, CHAIN, [0, None, None], SURE, 0, 0)


class FateKnownTest(Case):
    def test_a_search_of_all_true_lasts_agrees(self):
        seen = {}
        for net, lasts, known, agreeing in cases(104, 10)[::3]:
            for load in judge.within([2] * len(net))[::4]:
                state = State(net, load, lasts)
                if agreeing == []:
                    self.refuses(FalseLasts, {"reason": false_reason(net, lasts, known)}, fate_known, state, known)
                    continue
                wrong = [row for row in agreeing if not judge.done(net, load, row)]
                found = fate_known(state, known)
                if wrong:
                    self.assertIn(found, wrong)
                else:
                    self.agree(found, None)
                self.agree(fate_known(state, list(known)), found)
                fresh = judge.often(net, load, [None] * net.nodes) == []
                kind = (wrong == [], len(wrong) == len(agreeing), fresh)
                seen[kind] = seen.get(kind, 0) + 1
        self.assertGreater(len(seen), 3)
        self.assertGreater(min(seen.values()), 50)

    def test_fate_known(self):
        self.agree(fate_known(State(CHAIN, [1, 1, 0], [None, 0, None]), [False, True, True]), (0, 0, None))
        self.agree(fate_known(state=State(CHAIN, [0, 1, 1]), known=[False, True, False]), None)
        self.agree(fate_known(State(EMPTY, []), [True, False]), None)
        self.agree(fate_known(State(CHAIN, [LONG, LONG, LONG], [0, 0, 2]), [True, True, True]), (0, 0, 2))

    def test_great_counts(self):
        own = Net(1, [((0, True),), ((0, True),)])
        for other, known, wanted in ((LONG, [False], None), (LONG - 1, [False], (0,)), (LONG - 1, [True], None)):
            self.agree(fate_known(State(own, [LONG, other], [1]), known), wanted)
        self.agree(fate_known(State(own, [LONG, LONG - 1], [0]), [True]), (0,))

    def test_refusals(self):
        self.refuses_all(InvalidKnown, NO_KNOWN, lambda known: fate_known(State(CHAIN, [0, 0, 0], [0, None, None]), known))
        self.refuses(FalseLasts, {"reason": ("bare", 0)}, fate_known, State(CHAIN, [9, 9, 9], [0, None, None]), SURE)
        self.refuses(FalseLasts, {"reason": ("circle", [(0, 0), (1, 1)])}, fate_known, State(PAIR, [9, 9], [0, 1]),
                     [True, True])


if __name__ == "__main__":
    unittest.main()
