"""Points [8], [121], [122] and [123]: repeats and errands."""

import itertools
import unittest

from otherfirst.errands import errands, is_errand, is_errands, repeated, times_over
from otherfirst.errors import Circled, InvalidNumber, NotForEver, TooMany
from otherfirst.lasts import circle_of
from otherfirst.nets import Net
from otherfirst.states import State
from otherfirst.taking import greater
from tests import judge
from tests.helpers import EMPTY, LONG, PAIR, ROW, TRIANGLE, Case, all_states, any_values, random_states, small_nets

NET = Net(3, [((0, True), (1, True)), ((1, True), (2, True)), ((0, True),), ((2, False),)])
FREE = Net(1, [((0, False),)])
MINDED = Net(1, [((0, True),)])
# Both ends of the shared task do not mind it.
LOOSE = Net(2, [((0, False), (1, False)), ((0, True),), ((1, True), )])


def small_states():
    states = all_states(PAIR, 2) + all_states(TRIANGLE, 1) + all_states(LOOSE, 2)[::3]
    states += random_states(121, 300, most_nodes=3, most_tasks=4, none=0.3)
    return [state for state in states if circle_of(state.net, state.lasts) is None]


def done_times(state, number):
    return judge.done(state.net, [left * number for left in state.load], state.lasts)


def ends_of(net, task):
    return {node for node, _ in net.tasks[task]}


def is_errand_by_words(net, row):
    """The words of point [122], for a list in which each item is a task or a node of the net in its place."""
    tasks, nodes = row[::2], row[1::2]
    if not all(0 <= task < len(net) for task in tasks) or not all(0 <= node < net.nodes for node in nodes):
        return False
    if len(row) % 2 == 0:
        if len(tasks) < 2:
            return False
        for at, task in enumerate(tasks):
            ahead, behind = nodes[at - 1], nodes[at]
            if len(ends_of(net, task)) != 2 or ends_of(net, task) != {ahead, behind}:
                return False
        pairs = [(tasks[at], tasks[(at + 1) % len(tasks)], nodes[at]) for at in range(len(nodes))]
    else:
        if nodes == [] or ends_of(net, tasks[0]) != {nodes[0]} or ends_of(net, tasks[-1]) != {nodes[-1]}:
            return False
        for at in range(1, len(nodes)):
            if len(ends_of(net, tasks[at])) != 2 or ends_of(net, tasks[at]) != {nodes[at - 1], nodes[at]}:
                return False
        pairs = [(tasks[at], tasks[at + 1], nodes[at]) for at in range(len(nodes))]
    return not any(one == other and (node, True) in net.tasks[one] for one, other, node in pairs)


class RepeatedTest(Case):
    def test_repeated(self):
        state = State(NET, [1, 0, 2, LONG], [0, 0, 3])
        for number in (0, 1, 3, 400):
            found = repeated(state, number)
            self.agree([found.load, found.lasts, found.net == NET],
                       [(number, 0, 2 * number, LONG * number), (0, 0, 3), True])
        self.agree(repeated(state=State(EMPTY, []), number=2) == State(EMPTY, []), True)

    def test_refusals(self):
        self.refuses_all(InvalidNumber, [None, True, False, -1, 401, LONG, "", "1", [], [1], (1,), {}, 1.0, NET],
                         lambda number: repeated(State(NET, [0] * 4), number))


class TimesOverTest(Case):
    def test_a_search_of_all_rows_of_runs_agrees(self):
        seen = {0: 0, 1: 0, None: 0}
        for state in small_states():
            found = times_over(state)
            times = [done_times(state, number) for number in (1, 2, 3, 4)]
            self.assertIn((found, times), [(0, [False] * 4), (1, [True] + [False] * 3), (None, [True] * 4),
                                           (0, [False, True, True, True])])
            self.assertFalse(found == 0 and times[1])
            seen[found] += 1
            half = all(2 * left <= sum(state.load[other] for other in state.net.at(node))
                       for task, left in enumerate(state.load) for node, minds in state.net.tasks[task] if minds)
            self.assertEqual(found is None, half)
        self.assertGreater(min(seen.values()), 50)

    def test_times_over(self):
        self.agree([times_over(State(NET, load)) for load in ([1, 1, 1, 1], [1, 1, 1, 0], [3, 1, 1, 1], [0] * 4)],
                   [None, 1, 0, None])
        self.agree([times_over(state=State(EMPTY, [])), times_over(State(FREE, [LONG])), times_over(State(MINDED, [1])),
                    times_over(State(MINDED, [1], [0]))], [None, None, 1, 0])
        pair = Net(1, [((0, True),), ((0, True),)])
        self.agree([times_over(State(pair, load)) for load in ([LONG, LONG], [LONG, LONG - 1], [LONG, LONG - 2])],
                   [None, 1, 0])

    def test_the_sum_with_any_load_that_can_be_done(self):
        sums = 0
        for net in small_nets(123, 8):
            for load in judge.within([2] * len(net))[::2]:
                state = State(net, load)
                if times_over(state) is None:
                    for lasts in judge.true_lasts(net)[:6]:
                        for other in judge.within([1] * len(net)):
                            if judge.done(net, other, lasts):
                                both = [one + two for one, two in zip(load, other)]
                                self.assertTrue(judge.done(net, both, lasts))
                                self.assertTrue(judge.done(net, greater(state, other).load, lasts))
                                sums += 1
        self.assertGreater(sums, 500)

    def test_refusals(self):
        self.refuses(Circled, {"circle": [(0, 0), (1, 1)]}, times_over, State(PAIR, [1, 1], [0, 1]))
        self.refuses(Circled, {"circle": [(0, 0), (1, 1)]}, times_over, State(PAIR, [LONG, 0], [0, 1]))


class IsErrandTest(Case):
    def test_all_short_lists(self):
        right = {}
        for net in [LOOSE, PAIR, ROW, TRIANGLE, FREE, Net(1, [((0, False),), ((0, True),)])]:
            size = max(net.nodes, len(net)) + 1
            for length in range(8):
                for row in itertools.product(range(size), repeat=length):
                    wanted = is_errand_by_words(net, list(row))
                    self.agree(is_errand(net, row), wanted)
                    if wanted:
                        right[length] = right.get(length, 0) + 1
        self.assertEqual(sorted(right), [3, 4, 5, 6, 7])

    def test_random_walks(self):
        for net in small_nets(122, 20):
            for length in (3, 4, 5):
                for row in list(itertools.product(range(max(net.nodes, len(net))), repeat=length))[::3]:
                    self.agree(is_errand(net, list(row)), is_errand_by_words(net, list(row)))

    def test_is_errand(self):
        for value in ([2, 0, 0, 1, 1, 2, 3], (2, 0, 0, 1, 1, 2, 3), [3, 2, 1, 1, 0, 0, 2], [3, 2, 3]):
            self.agree(is_errand(net=NET, value=value), True)
        for value in [[2, 0, 2], [3, 2, 1, 1, 1, 2, 3], [0, 0, 0, 1], [0, 1], [0], [], [3], [3, 2], [2, 0], [0, 1, 0],
                      [2, 0, 0, 1, 1], [0, 1, 1, 2, 3], [2, 1, 0, 0, 2], [2, 0, 1, 1, 0], [2, 0, 3], [0, 1, 1, 2]]:
            self.agree(is_errand(NET, value), False)

    def test_closed_errands(self):
        for value in ([0, 1, 1, 0], [0, 0, 1, 1], [1, 1, 0, 0], (1, 0, 0, 1), [0, 1, 1, 0, 0, 1, 1, 0]):
            self.agree(is_errand(PAIR, value), True)
        for value in ([0, 1, 0, 0], [0, 0, 0, 1], [0, 1, 1, 1], [0, 0, 1, 0], [0, 1, 1, 0, 1, 0], [0, 1]):
            self.agree(is_errand(PAIR, value), False)
        # A node that does not mind a task may turn on it, also from the last to the first one.
        self.agree([is_errand(LOOSE, [0, 1, 0, 0]), is_errand(LOOSE, [0, 0, 0, 1])], [True, True])
        for marks, wanted in (((False, False), True), ((True, False), False), ((False, True), False)):
            net = Net(2, [((0, marks[0]), (1, marks[1]))])
            self.agree([is_errand(net, [0, 1, 0, 0]), is_errand(net, [0, 0, 0, 1])], [wanted] * 2)
        self.agree(is_errand(TRIANGLE, [0, 1, 1, 2, 2, 0]), True)
        self.agree(is_errand(TRIANGLE, [0, 0, 1, 2, 2, 1]), False)

    def test_wrong_items(self):
        for value in [[3, 2, True], [True, 1, 0, 0], [0, True, 1, 0], [0, 1, 1, False], [False, 1, 1, 0], [3, 2.0, 3],
                      [None, 2, 3], [3, None, 3], [3, 2, "3"], [3, [2], 3], [-1, 2, 3], [3, -1, 3], [3, 2, 4], [3, 3, 3],
                      [4, 2, 3], [(3,), 2, 3]]:
            self.agree(is_errand(NET, value), False)
        self.agree([is_errand(PAIR, [0, True, 1, 0]), is_errand(PAIR, [0, 1, True, 0]), is_errand(PAIR, [False, 1, 1, 0])],
                   [False] * 3)

    def test_any_value(self):
        for net in (NET, FREE, EMPTY):
            for value in any_values():
                self.agree(is_errand(net, value), False)
                self.agree(is_errand(net, [0, value, 0]), net == FREE and repr(value) == "0")
                self.agree(is_errand(net, [value, 0, 0]), net == FREE and repr(value) == "0")


class ErrandsTest(Case):
    def test_each_task_comes_twice_as_often_as_it_is_left(self):
        found = 0
        for state in small_states():
            net = state.net
            heavy = [(node, task) for node in range(net.nodes) for task in net.at(node) if net.minds(task, node)
                     and 2 * state.load[task] > sum(state.load[other] for other in net.at(node))]
            if heavy:
                self.refuses(NotForEver, {"node": heavy[0][0], "task": heavy[0][1]}, errands, state)
                self.assertIsNotNone(times_over(state))
                continue
            rows = errands(state)
            self.assertIsNone(times_over(state))
            self.judge(state, rows)
            self.agree([is_errands(state, rows), is_errands(state, tuple(tuple(row) for row in rows[::-1])),
                        errands(state)], [True, True, rows])
            # They do not depend on the lasts, which need not be sound.
            for lasts in judge.all_lasts(net)[-2:]:
                self.agree(errands(State(net, state.load, lasts)), rows)
            found += rows != []
        self.assertGreater(found, 100)

    def judge(self, state, rows):
        tasks = [task for row in rows for task in row[::2]]
        self.assertEqual([tasks.count(task) for task in range(len(state.net))], [2 * left for left in state.load])
        for row in rows:
            self.assertIs(type(row), list)
            self.assertTrue(is_errand_by_words(state.net, row), row)

    def test_errands(self):
        self.agree([errands(state=State(NET, [0] * 4)), errands(State(EMPTY, []))], [[], []])
        self.agree(errands(State(FREE, [1])), [[0, 0, 0]])
        state = State(NET, [1, 1, 1, 2])
        self.judge(state, errands(state))
        self.new_each_time(lambda: errands(state))
        self.new_each_time(lambda: errands(state)[0])

    def test_great_states(self):
        row = Net(24, [((node, True), (node + 1, True)) for node in range(23)]
                  + [((task % 24, task % 5 > 0),) for task in range(77)])
        for state in (State(row, [4] * 100), State(row, [3] * 23 + [4] * 77), State(TRIANGLE, [133, 133, 133]),
                      State(FREE, [400]), State(LOOSE, [398, 1, 1])):
            self.assertLessEqual(state.total(), 400)
            self.judge(state, errands(state))
            self.agree(is_errands(state, errands(state)), True)

    def test_refusals(self):
        self.refuses(NotForEver, {"node": 2, "task": 1}, errands, State(NET, [1, 1, 1, 0]))
        self.refuses(NotForEver, {"node": 0, "task": 0}, errands, State(NET, [1, 9, 0, 0]))
        self.refuses(NotForEver, {"node": 0, "task": 2}, errands, State(NET, [0, 9, 1, 0]))
        self.refuses(TooMany, {"count": 401}, errands, State(FREE, [401]))
        self.refuses(TooMany, {"count": 401}, errands, State(MINDED, [401]))
        self.refuses(NotForEver, {"node": 0, "task": 0}, errands, State(MINDED, [400]))
        self.refuses(TooMany, {"count": LONG}, errands, State(MINDED, [LONG]))


class IsErrandsTest(Case):
    STATE = State(NET, [1, 1, 1, 2])
    RIGHT = [[2, 0, 0, 1, 1, 2, 3], [3, 2, 1, 1, 0, 0, 2], [3, 2, 3]]

    def test_is_errands(self):
        right = self.RIGHT
        for value in (right, right[::-1], tuple(right), [tuple(right[0]), right[1], right[2][::-1]]):
            self.agree(is_errands(state=self.STATE, value=value), True)
        for value in [right[:2], right[1:], right + right[2:], right[:2] + [[3, 2, 3, 2, 3]], [right[0], right[0]],
                      right[:2] + [[3, 2]], right[:2] + [[3, 2, True]], right[:2] + [None], [right], None, "", {}, [],
                      right[:2] + [[]], right[:2] + [{}], [right[0] + right[1][1:], right[2], []], right + [[3]]]:
            self.agree(is_errands(self.STATE, value), False)
        self.agree([is_errands(State(NET, load), right) for load in ([1, 1, 1, 1], [1, 1, 0, 2], [2, 1, 1, 2], [0] * 4)],
                   [False] * 4)

    def test_of_any_length(self):
        self.agree([is_errands(State(FREE, [many]), [[0, 0, 0]] * 1000) for many in (999, 1000, 1001)],
                   [False, True, False])
        self.agree(is_errands(State(FREE, [LONG]), [[0, 0, 0]]), False)

    def test_a_net_whose_counts_agree_but_which_has_no_errands(self):
        self.agree(is_errands(State(MINDED, [1]), [[0, 0, 0]]), False)
        self.agree(is_errands(State(PAIR, [1, 1], [0, 1]), [[0, 1, 1, 0], [0, 1, 1, 0]]), True)
        self.agree(is_errands(State(PAIR, [1, 1], [0, 1]), [[0, 1, 1, 0, 0, 1, 1, 0]]), True)
        self.agree(is_errands(State(PAIR, [1, 1]), [[0, 1, 0, 0], [1, 1, 1, 0]]), False)

    def test_any_value(self):
        for value in any_values():
            self.agree(is_errands(State(EMPTY, []), value), value in ([], ()))
            self.agree(is_errands(self.STATE, value), False)
            self.agree(is_errands(self.STATE, self.RIGHT + [value]), False)


if __name__ == "__main__":
    unittest.main()
