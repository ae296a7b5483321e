"""Points [8], [161] and [162]: gangs, their complete schedules and their fences."""

import itertools
import random
import unittest

from otherfirst.errors import InvalidLasts, InvalidLoad, InvalidNodes, InvalidTasks, NoSchedule, TooMany
from otherfirst.gangs import Gang, gang_moves, gang_often, gang_schedule, is_gang_fence
from otherfirst.nets import Net
from otherfirst.states import State
from tests import judge
from tests.helpers import LONG, Case, any_values, no_loads_of

PAIRS = [((0, True), (1, True)), ((1, True), (2, True)), ((0, True), (2, True))]
COMMON = ((0, True), (1, True), (2, True))
GANG = Gang(3, PAIRS + [COMMON])
FRESH = [None, None, None]
# One task of three nodes, of which one does not mind it, and one task of one node.
TRIO = Gang(3, [((0, True), (1, False), (2, True)), ((1, True),)])
EMPTY_GANG = Gang(2, [])


def at(gang, node):
    return [task for task, ends in enumerate(gang.tasks) if node in [end for end, _ in ends]]


def random_gang(rng, most_nodes=4, most_tasks=4):
    nodes = rng.randint(1, most_nodes)
    tasks = []
    for _ in range(rng.randint(0, most_tasks)):
        ends = sorted(rng.sample(range(nodes), rng.randint(1, nodes)))
        tasks.append(tuple((node, rng.random() < 0.8) for node in ends))
    return Gang(nodes, tasks)


def random_cases(seed, number, most_left=2):
    """Tuples of a gang, a load and lasts."""
    rng = random.Random(seed)
    found = []
    for _ in range(number):
        gang = random_gang(rng)
        load = [rng.randint(0, most_left) for _ in gang.tasks]
        found.append((gang, load, [rng.choice([None, None] + at(gang, node)) for node in range(gang.nodes)]))
    return found


def standings_from(gang, load, lasts, moves=judge.moves):
    """All standings to which runs lead."""
    found = {(tuple(load), tuple(lasts))}
    border = list(found)
    while border:
        standing = border.pop()
        for task in moves(gang, *standing):
            later = judge.behind(gang, *standing, task)
            if later not in found:
                found.add(later)
                border.append(later)
    return found


def is_fence_by_words(gang, load, lasts, standings, moves=judge.moves):
    """The words of point [162], for standings of the gang that are tuples of tuples."""
    within = set(standings)
    if (tuple(load), tuple(lasts)) not in within or any(sum(left) == 0 for left, _ in within):
        return False
    return all(judge.behind(gang, *standing, task) in within for standing in within for task in moves(gang, *standing))


class GangTest(Case):
    def test_gang(self):
        gang = Gang(nodes=3, tasks=PAIRS + [COMMON])
        self.agree([gang.nodes, gang.tasks], [3, tuple(PAIRS) + (COMMON,)])
        self.assertTrue(gang == GANG and gang == Gang(3, tuple(PAIRS) + (COMMON,)))
        self.assertTrue(gang != Gang(4, PAIRS + [COMMON]) and gang != Gang(3, PAIRS) and gang != Gang(3, [COMMON] + PAIRS))
        self.assertTrue(gang != Gang(3, PAIRS + [((0, True), (1, True), (2, False))]))
        self.assertTrue(Gang(3, PAIRS) != Net(3, PAIRS) and Net(3, PAIRS) != Gang(3, PAIRS))
        self.assertFalse(gang == 3 or gang is None or gang == (3, gang.tasks))
        self.assertTrue(State(Net(3, PAIRS), [0, 0, 0]) != Gang(3, PAIRS))

    def test_it_keeps_no_list(self):
        tasks = [((0, True),)]
        gang = Gang(1, tasks)
        tasks.append(((0, False),))
        self.agree(gang.tasks, (((0, True),),))

    def test_greatest_gangs(self):
        ends = tuple((node, node % 2 == 0) for node in range(8))
        gang = Gang(8, [ends] * 12)
        self.agree([gang.nodes, len(gang.tasks), gang.tasks[11]], [8, 12, ends])
        self.agree([Gang(1, []).tasks, Gang(1, [((0, False),)]).tasks], [(), (((0, False),),)])

    def test_refusals(self):
        self.refuses_all(InvalidNodes, [None, True, False, 0, 9, -1, LONG, "3", [3], (3,), {}, 3.0, GANG],
                         lambda nodes: Gang(nodes, None))
        wrong = [None, True, 0, "", {}, GANG, [None], [()], [[]], [[(0, True)]], [((0, True), [1, True])], [([0, True],)],
                 [((0, 1),)], [((0, True), (0, True))], [((1, True), (0, True))], [((0, True), (2, True), (1, True))],
                 [((0, True), (1, True), (1, False))], [((3, True),)], [((-1, True),)], [((True, True),)], [((0, None),)],
                 [((0,),)], [((0, True, True),)], [(0, True)], [((0.0, True),)], [COMMON] * 13, [PAIRS], (COMMON, None)]
        self.refuses_all(InvalidTasks, wrong, lambda tasks: Gang(3, tasks))
        nine = tuple((node, True) for node in range(9))
        self.refuses(InvalidTasks, {"given": [nine]}, Gang, 8, [nine])


class OftenAndMovesTest(Case):
    def test_by_words(self):
        for gang, load, lasts in random_cases(1, 400, 3):
            self.agree(gang_often(gang, load, lasts), judge.often(gang, load, lasts))
            self.agree(gang_moves(gang, tuple(load), tuple(lasts)), judge.moves(gang, load, lasts))

    def test_often_and_moves(self):
        self.agree([gang_often(gang=GANG, load=[0, 1, 1, 3], lasts=FRESH), gang_often(GANG, [1, 1, 1, 3], FRESH)],
                   [[(0, 3), (1, 3)], []])
        self.agree([gang_moves(gang=GANG, load=[1, 0, 1, 2], lasts=[3, 3, 3]), gang_moves(GANG, [0] * 4, FRESH)], [[0, 2], []])
        self.agree([gang_often(TRIO, [2, 0], FRESH), gang_often(TRIO, [1, 2], [0, 0, None])], [[(0, 0), (2, 0)], [(0, 0)]])
        self.agree([gang_moves(TRIO, [1, 1], [None, 0, None]), gang_moves(TRIO, [1, 1], [None, None, 0])], [[0, 1], [1]])
        self.agree([gang_often(EMPTY_GANG, [], [None, None]), gang_moves(EMPTY_GANG, [], [None, None])], [[], []])
        # Counts may be great, and lasts need not be such as runs leave.
        self.agree(gang_often(GANG, [LONG, 1, 1, LONG], [3, 1, 2]), [(2, 3)])
        self.agree(gang_moves(GANG, [LONG] * 4, [0, 1, 2]), [3])
        self.new_each_time(lambda: gang_often(GANG, [0, 1, 1, 3], FRESH))
        self.new_each_time(lambda: gang_moves(GANG, [1, 0, 1, 2], [3, 3, 3]))
        self.unchanged(gang_moves, GANG, [1, 0, 1, 2], [3, 3, 3])

    def test_refusals(self):
        for call in (gang_often, gang_moves, gang_schedule, lambda gang, load, lasts: is_gang_fence(gang, load, lasts, None)):
            self.refuses_all(InvalidLoad, no_loads_of(PAIRS), lambda load: call(Gang(3, PAIRS), load, None))
            self.refuses_all(InvalidLasts, [None, True, 0, "", {}, GANG, [], [None] * 2, [None] * 4, [1, None, None],
                                            [None, 2, None], [0, True, None], [False, None, None], [4, None, None],
                                            [-1, None, None], ["0", None, None], [[0], None, None], [0.0, None, None]],
                             lambda lasts: call(GANG, [LONG] * 4, lasts))


class ScheduleTest(Case):
    def test_a_search_agrees(self):
        seen = {True: 0, False: 0}
        fine = 0
        for gang, load, lasts in random_cases(2, 500):
            wanted = judge.Search(gang).least(load, lasts)
            if wanted is None:
                fence = self.fence_of(gang, load, lasts)
                self.assertTrue(is_fence_by_words(gang, load, lasts, fence))
                self.agree(is_gang_fence(gang, load, lasts, fence), True)
                fine += gang_often(gang, load, lasts) == [] and set(lasts) == {None}
            else:
                found = gang_schedule(gang, load, lasts)
                self.agree(type(found), list)
                self.assertTrue(self.is_complete(gang, load, lasts, found))
                self.agree(gang_schedule(Gang(gang.nodes, list(gang.tasks)), tuple(load), tuple(lasts)), found)
            seen[wanted is None] += 1
            # A fence is just what there is if there is no complete schedule.
            self.agree(is_gang_fence(gang, load, lasts, list(standings_from(gang, load, lasts))), wanted is None)
        self.assertGreater(min(seen.values()), 100)

    def fence_of(self, gang, load, lasts):
        with self.assertRaises(NoSchedule) as caught:
            gang_schedule(gang, load, lasts)
        fence = caught.exception.fence
        self.assertIs(type(fence), list)
        for standing in fence:
            self.agree([type(standing), [type(part) for part in standing]], [tuple, [tuple, tuple]])
        with self.assertRaises(NoSchedule) as again:
            gang_schedule(gang, tuple(load), tuple(lasts))
        self.agree(again.exception.fence, fence)
        self.assertIsNot(again.exception.fence, fence)
        return fence

    def is_complete(self, gang, load, lasts, tasks):
        for task in tasks:
            if task not in judge.moves(gang, load, lasts):
                return False
            load, lasts = judge.behind(gang, load, lasts, task)
        return sum(load) == 0

    def test_fine_counts_and_fresh_lasts_are_not_enough(self):
        # Point [8]: three pairs of three nodes, and a common task once more often than each node has pairs.
        self.agree(gang_often(GANG, [1, 1, 1, 3], FRESH), [])
        self.fence_of(GANG, [1, 1, 1, 3], FRESH)

    def test_gang_schedule(self):
        self.agree([gang_schedule(gang=EMPTY_GANG, load=[], lasts=[None, None]), gang_schedule(GANG, [0] * 4, [3, 3, 3])], [[], []])
        self.agree(gang_schedule(GANG, [0, 0, 0, 1], FRESH), [3])
        self.new_each_time(lambda: gang_schedule(GANG, [1, 0, 0, 1], FRESH))
        self.unchanged(gang_schedule, GANG, [1, 0, 0, 1], FRESH)
        self.agree(self.fence_of(GANG, [0, 0, 0, 1], [3, None, None]), [((0, 0, 0, 1), (3, None, None))])

    def test_products_at_most_100(self):
        free = Gang(2, [((0, False),), ((0, True), (1, False)), ((0, False), (1, False))])
        self.agree(sorted(gang_schedule(free, [99, 0, 0], [None, None])), [0] * 99)
        self.agree(len(gang_schedule(free, [4, 4, 3], [None, None])), 11)
        self.refuses(TooMany, {"count": 101}, gang_schedule, free, [100, 0, 0], [None, None])
        self.refuses(TooMany, {"count": 102}, gang_schedule, free, [1, 50, 0], [None, None])
        self.refuses(TooMany, {"count": (LONG + 1) ** 3}, gang_schedule, free, [LONG] * 3, [None, None])
        # Also where there is no complete schedule.
        self.fence_of(free, [0, 99, 0], [None, None])
        self.refuses(TooMany, {"count": 101}, gang_schedule, free, [0, 100, 0], [None, None])
        self.refuses(TooMany, {"count": 128}, gang_schedule, Gang(1, [((0, True),)] * 7), [1] * 7, [None])


class IsFenceTest(Case):
    START = ((0, 0, 0, 1), (3, None, None))

    def test_all_sets_of_standings(self):
        gang = Gang(2, [((0, True), (1, True)), ((1, True),)])
        standings = [(load, lasts) for load in ((0, 0), (1, 0), (0, 1), (1, 1)) for lasts in ((0, 0), (0, None), (0, 1))]
        right = 0
        for load, lasts in (((1, 0), (0, 0)), ((1, 1), (0, 1)), ((1, 1), (0, 0)), ((0, 0), (0, 0))):
            for size in range(5):
                for value in itertools.combinations(standings, size):
                    wanted = is_fence_by_words(gang, load, lasts, value)
                    self.agree([is_gang_fence(gang, load, lasts, list(value)), is_gang_fence(gang, list(load), list(lasts), value)],
                               [wanted, wanted])
                    right += wanted
        self.assertGreater(right, 50)

    def judge_of(self, value):
        return is_gang_fence(gang=GANG, load=[0, 0, 0, 1], lasts=[3, None, None], value=value)

    def test_each_condition_broken_alone(self):
        lists = ([0, 0, 0, 1], [3, None, None])
        for value in ([self.START], (self.START,), [self.START, self.START], [lists], [(self.START[0], lists[1])],
                      [self.START, ((0, 0, 0, 1), (3, 3, 3))], [((0, 0, 0, 5), (3, 3, 3)), self.START]):
            self.agree(self.judge_of(value), True)
        for value in [[], [((0, 0, 0, 1), (3, 3, 3))], [list(self.START)], [self.START, ((0, 0, 0, 0), (3, 3, 3))],
                      # Runs lead from the second one to another.
                      [self.START, ((0, 0, 0, 2), FRESH)], [self.START, ((1, 0, 0, 0), (3, 3, 3))],
                      [((0, 0, 0, True), (3, None, None))], [((False, 0, 0, 1), (3, None, None))],
                      [((0, 0, 1), (3, None, None))], [((0, 0, 0, 1), (3, None))], [((0, 0, 0, 1), (3, None, 0))],
                      [((0, 0, 0, 1), (3, None, None), None)], [((0, 0, 0, 1),)], [((0, 0, 0, -1), (3, None, None))],
                      [((0, 0, 0, 1), (3.0, None, None))], [((0, 0, 0, 1.0), (3, None, None))], [(None, None)], self.START,
                      [self.START, None], {}, None, "", [[self.START]], [self.START, ()], [((0, 0, 0, 1), (4, None, None))]]:
            self.agree(self.judge_of(value), False)

    def test_any_value(self):
        for value in any_values():
            self.agree(self.judge_of(value), False)
            self.agree(self.judge_of([self.START, value]), False)
            self.agree(self.judge_of([(self.START[0], value)]), False)
            self.agree(self.judge_of([(value, self.START[1])]), False)

    def test_no_too_many(self):
        # Nobody can run anything, however much is left.
        stuck = ((LONG, 0, 0, LONG), (3, 0, 3))
        self.agree(is_gang_fence(GANG, *stuck, [stuck]), True)
        self.agree(is_gang_fence(GANG, [LONG] * 4, FRESH, []), False)
        # One node goes on and on while the other one bars its only task.
        gang = Gang(2, [((0, True),), ((1, False),)])
        fence = [((1, 149), (0, None))] + [((1, count), (0, 1)) for count in range(149)]
        self.refuses(TooMany, {"count": 300}, gang_schedule, gang, [1, 149], [0, None])
        self.agree([is_gang_fence(gang, [1, 149], [0, None], fence), is_gang_fence(gang, [1, 149], [0, None], fence[:-1])],
                   [True, False])


if __name__ == "__main__":
    unittest.main()
