"""Points [8], [163] and [164]: webs, their gangs and their tintings."""

import itertools
import random
import unittest

from otherfirst.errors import InvalidNodes, InvalidTies, InvalidTints, NoSchedule, NotComplete, NotRegular, TooMany
from otherfirst.gangs import Gang, gang_often, gang_schedule
from otherfirst.tints import tie_number, tinted_schedule, tintings, tints_of, web_gang
from tests import judge
from tests.helpers import LONG, Case, any_values, same

SQUARE = [(0, 1), (1, 2), (2, 3), (0, 3)]
TRIANGLE = [(0, 1), (0, 2), (1, 2)]
FULL = [(0, 1), (0, 2), (0, 3), (1, 2), (1, 3), (2, 3)]
PRISM = [(0, 1), (1, 2), (0, 2), (3, 4), (4, 5), (3, 5), (0, 3), (1, 4), (2, 5)]
FIVE = [(one, other) for one in range(5) for other in range(one + 1, 5)]
OCTAGON = [(node, node + 1) for node in range(7)] + [(0, 7)]
WEBS = [(4, SQUARE), (3, TRIANGLE), (4, FULL), (6, PRISM), (8, OCTAGON), (2, [(0, 1)]), (4, [(2, 3), (0, 1)]), (5, []),
        (6, [(3, 5), (0, 1), (1, 2), (0, 2), (4, 5), (3, 4)]), (4, [(0, 2), (1, 3), (0, 3), (1, 2)]), (2, [])]
NO_NODES = [None, True, False, 0, 1, 9, -1, LONG, "4", [4], (4,), {}, 4.0]
NO_TIES = [None, True, 0, "", {}, [None], [0, 1], [(0,)], [(0, 1, 2)], [[0, 1]], [(1, 0)], [(0, 0)], [(0, 4)], [(-1, 0)],
           [(0, True)], [(False, 1)], [(0, 1.0)], [(0, None)], [("0", 1)], [(0, 1), (0, 1)], SQUARE + [(1, 2)], [((0,), 1)],
           [(0, 1)] * 12]
# The calls with the arguments nodes and ties; all else that they are passed is wrong.
CALLS = [tie_number, web_gang, tintings, lambda nodes, ties: tinted_schedule(nodes, ties, None),
         lambda nodes, ties: tints_of(nodes, ties, None)]


def tintings_by_words(ties, number):
    found = []
    for tints in itertools.product(range(number), repeat=len(ties)):
        pairs = itertools.combinations(range(len(ties)), 2)
        if all(tints[one] != tints[other] or not set(ties[one]) & set(ties[other]) for one, other in pairs):
            found.append(list(tints))
    return found


def is_complete(nodes, ties, order):
    gang, load = web_gang(nodes, ties)
    lasts = (None,) * nodes
    for task in order:
        if task not in judge.moves(gang, load, lasts):
            return False
        load, lasts = judge.behind(gang, load, lasts, task)
    return sum(load) == 0


def has_tints(ties, order, tints):
    """Whether as many runs of the common task stand ahead of each tie as its tint tells, and one more."""
    return all(order[:order.index(tie)].count(len(ties)) == tint + 1 for tie, tint in enumerate(tints))


class WebTest(Case):
    def test_tie_number(self):
        self.agree([tie_number(nodes=nodes, ties=ties) for nodes, ties in WEBS], [2, 2, 3, 3, 2, 1, 1, 0, 2, 2, 0])
        self.agree([tie_number(4, tuple(SQUARE)), tie_number(5, FIVE)], [2, 4])

    def test_web_gang(self):
        for nodes, ties in WEBS:
            gang, load = web_gang(nodes=nodes, ties=ties)
            number = tie_number(nodes, ties)
            ends = [tuple((node, True) for node in tie) for tie in ties] + [tuple((node, True) for node in range(nodes))]
            self.assertTrue(gang == Gang(nodes, ends))
            self.agree([gang.nodes, gang.tasks, load], [nodes, tuple(ends), (1,) * len(ties) + (number + 1,)])
            # Fine counts and fresh lasts, whether there is a tinting or not.
            self.agree(gang_often(gang, load, (None,) * nodes), [])
        self.agree([type(web_gang(4, SQUARE)), web_gang(4, tuple(SQUARE))[1]], [tuple, (1, 1, 1, 1, 3)])

    def test_refusals(self):
        for call in CALLS:
            self.refuses_all(InvalidNodes, NO_NODES, lambda nodes: call(nodes, None))
            self.refuses_all(InvalidTies, NO_TIES, lambda ties: call(4, ties))
            self.refuses(InvalidTies, {"given": FULL + [(0, 4)]}, call, 4, FULL + [(0, 4)])
            for nodes, ties, node in ((4, [(0, 1)], 2), (3, [(0, 1), (1, 2)], 1), (4, [(2, 3)], 2), (5, SQUARE, 4),
                                      (3, [(1, 2)], 1), (4, [(0, 1), (0, 2), (1, 2), (0, 3)], 1)):
                self.refuses(NotRegular, {"node": node}, call, nodes, ties)
        # Eleven ties are as many as can be, but make no web, as no number of nodes has them at equal numbers.
        eleven = [(0, node) for node in range(1, 8)] + [(1, node) for node in range(2, 6)]
        self.refuses(NotRegular, {"node": 1}, tie_number, 8, eleven)
        self.refuses(InvalidTies, {"given": eleven + [(6, 7)]}, tie_number, 8, eleven + [(6, 7)])


class TintingsTest(Case):
    def test_by_words(self):
        for nodes, ties in WEBS:
            self.agree(tintings(nodes, ties), tintings_by_words(ties, tie_number(nodes, ties)))
            self.agree(tintings(nodes, tuple(ties)), tintings(nodes, ties))

    def test_tintings(self):
        self.agree([tintings(nodes=4, ties=SQUARE), tintings(3, TRIANGLE), tintings(2, []), tintings(2, [(0, 1)])],
                   [[[0, 1, 0, 1], [1, 0, 1, 0]], [], [[]], [[0]]])
        self.new_each_time(lambda: tintings(4, SQUARE))
        self.new_each_time(lambda: tintings(4, SQUARE)[0])
        self.new_each_time(lambda: tintings(2, [])[0])
        self.unchanged(tintings, 4, SQUARE)

    def test_powers_at_most_100000(self):
        # Three to the power of nine is below, four to the power of ten is not; no web comes nearer.
        self.assertEqual(len(tintings(6, PRISM)), len(tintings_by_words(PRISM, 3)))
        self.refuses(TooMany, {"count": 4 ** 10}, tintings, 5, FIVE)
        ten = [(one, other) for one in range(6) for other in range(one + 1, 6) if (one, other) not in ((0, 1), (2, 3), (4, 5))]
        self.refuses(InvalidTies, {"given": ten}, tintings, 6, ten)
        self.agree(len(tintings(8, OCTAGON)), 2)


class TintedScheduleTest(Case):
    def test_each_tinting_and_its_schedules(self):
        for nodes, ties in WEBS:
            for tints in tintings(nodes, ties):
                found = tinted_schedule(nodes, ties, tints)
                self.agree(type(found), list)
                self.assertTrue(is_complete(nodes, ties, found) and has_tints(ties, found, tints))
                self.agree([tints_of(nodes, ties, found), tints_of(nodes, ties, tuple(found))], [tints, tints])
                self.agree(tinted_schedule(nodes, tuple(ties), tuple(tints)), found)

    def test_any_complete_schedule_has_one_tinting(self):
        for nodes, ties in WEBS[:3] + WEBS[5:8] + WEBS[9:]:
            gang, load = web_gang(nodes, ties)
            seen = set()
            for order in itertools.islice(self.orders(gang, load, (None,) * nodes), 2000):
                tints = tints_of(nodes, ties, order)
                self.assertTrue(has_tints(ties, order, tints))
                seen.add(tuple(tints))
            self.agree(sorted(seen), [tuple(tints) for tints in tintings(nodes, ties)])

    def orders(self, gang, load, lasts):
        """All complete schedules, one by one."""
        if sum(load) == 0:
            yield []
        for task in judge.moves(gang, load, lasts):
            for rest in self.orders(gang, *judge.behind(gang, load, lasts, task)):
                yield [task] + rest

    def test_complete_schedules_are_tintings(self):
        # Point [8]: there is a complete schedule exactly if there is a tinting.
        seen = set()
        for nodes, ties in [(4, SQUARE), (3, TRIANGLE), (2, [(0, 1)]), (4, [(2, 3), (0, 1)]), (5, [])]:
            gang, load = web_gang(nodes, ties)
            try:
                order = gang_schedule(gang, load, [None] * nodes)
            except NoSchedule:
                self.agree(tintings(nodes, ties), [])
            else:
                self.assertIn(tints_of(nodes, ties, order), tintings(nodes, ties))
            seen.add(tintings(nodes, ties) == [])
        self.assertEqual(seen, {True, False})

    def test_tinted_schedule(self):
        self.agree([tinted_schedule(nodes=2, ties=[(0, 1)], tints=[0]), tinted_schedule(2, [], [])], [[1, 0, 1], [0]])
        self.agree(tints_of(nodes=4, ties=SQUARE, schedule=[4, 3, 1, 4, 2, 0, 4]), [1, 0, 1, 0])
        self.agree([tints_of(2, [], [0]), tints_of(2, [], (0,))], [[], []])
        self.new_each_time(lambda: tinted_schedule(4, SQUARE, [0, 1, 0, 1]))
        self.new_each_time(lambda: tints_of(4, SQUARE, [4, 3, 1, 4, 2, 0, 4]))
        self.unchanged(tinted_schedule, 4, SQUARE, [0, 1, 0, 1])

    def test_no_tintings(self):
        wrong = [[], [0, 1, 0], [0, 1, 0, 1, 0], [0, 0, 1, 1], [0, 1, 1, 0], [0, 2, 0, 1], [0, -1, 0, -1], [0, 1, 0, True],
                 [False, 1, 0, 1], [0, 1, 0, 1.0], [0, 1, 0, None], [[0], 1, 0, 1], ["0", 1, 0, 1], [0, 1, 0, LONG]]
        self.refuses_all(InvalidTints, wrong + any_values(), lambda tints: tinted_schedule(4, SQUARE, tints))
        self.refuses_all(InvalidTints, [value for value in any_values() if not same(value, []) and not same(value, ())],
                         lambda tints: tinted_schedule(2, [], tints))
        self.refuses_all(InvalidTints, [[0, 1, 0], [0, 0, 0], [0, 1, 2]], lambda tints: tinted_schedule(3, TRIANGLE, tints))

    def test_no_complete_schedules(self):
        right = [4, 3, 1, 4, 2, 0, 4]
        wrong = [right[:-1], right + [4], [4, 3, 0, 4, 2, 1, 4], [4, 4, 3, 1, 2, 0, 4], right[1:], [4, 3, 1, 4, 2, True, 4],
                 [4, 3, 1, 4, 2, 0, 4.0], [4, 3, 1, 4, 2, 0, None], [4, 3, 1, 4, 2, 5, 4], [4, 3, 1, 4, 2, -1, 4],
                 [4, 3, True, 4, 2, 0, 4], [4, 3, 1, 4, 2, False, 4], [right], [[4], 3, 1, 4, 2, 0, 4], [4] * 401]
        self.refuses_all(NotComplete, wrong + any_values(), lambda schedule: self.tints(schedule))
        rng = random.Random(1)
        for _ in range(300):
            order = right[:]
            rng.shuffle(order)
            if not is_complete(4, SQUARE, order):
                self.refuses(NotComplete, {"schedule": order}, tints_of, 4, SQUARE, order)

    def refuses_all(self, error, values, call):
        for value in values:
            with self.assertRaises(error) as caught:
                call(value)
            self.assertIs(list(vars(caught.exception).values())[0], value)

    def tints(self, schedule):
        return tints_of(4, SQUARE, schedule)


if __name__ == "__main__":
    unittest.main()
