"""Points [4], [5], [8] and [31] to [34]: which tasks can be run, which are safe and which spoil."""

import unittest

from otherfirst.errors import Barred, InvalidNode, InvalidTask, NothingLeft
from otherfirst.nets import Net
from otherfirst.runs import bars, legal, open_tasks, run, safe, spoils
from otherfirst.states import State, fine, urgent
from tests import judge
from tests.helpers import EMPTY, LONG, PAIR, ROW, TRIANGLE, Case, all_states, no_nodes_of, no_tasks_of, random_states

STATE = State(ROW, [1, 2, 1])


class LegalTest(Case):
    def test_legal(self):
        self.agree(legal(STATE), [0, 1, 2])
        self.agree(legal(State(ROW, [0, 2, 0])), [1])
        self.agree(legal(State(ROW, [1, 1, 1], [0, None, None])), [1, 2])
        self.agree(legal(State(EMPTY, [])), [])
        self.new_each_time(lambda: legal(STATE))

    def test_only_an_end_that_minds_bars(self):
        self.agree(legal(State(ROW, [0, 1, 0], [None, None, 1])), [1])
        self.agree(legal(State(ROW, [0, 1, 0], [None, 1, None])), [])

    def test_legal_is_what_can_be_run(self):
        for state in random_states(5, 300):
            self.agree(legal(state), judge.moves(state.net, state.load, state.lasts))
            for task in range(len(state.net)):
                can = state.load[task] > 0 and bars(state, task) == []
                self.assertEqual(task in legal(state), can)

    def test_bars(self):
        self.agree(bars(State(ROW, [1, 1, 1], [0, 0, 1]), 0), [0, 1])
        self.agree(bars(State(ROW, [0, 0, 0], [0, 0, 1]), 0), [0, 1])
        self.agree(bars(State(ROW, [1, 1, 1], [0, 1, 1]), 0), [0])
        self.agree(bars(State(ROW, [1, 1, 1], [0, 1, 1]), 1), [1])
        self.agree(bars(state=State(ROW, [1, 1, 1], [None, None, 2]), task=2), [2])
        self.agree(bars(STATE, 1), [])
        self.new_each_time(lambda: bars(State(ROW, [1, 1, 1], [0, 0, 1]), 0))

    def test_bars_refuses(self):
        self.refuses_all(InvalidTask, no_tasks_of(ROW), lambda task: bars(STATE, task))


class RunTest(Case):
    def test_run(self):
        behind = run(STATE, 1)
        self.assertEqual(behind, State(ROW, [1, 1, 1], [None, 1, 1]))
        self.agree([behind.load, behind.lasts], [(1, 1, 1), (None, 1, 1)])
        self.agree(run(state=behind, task=2).lasts, (None, 1, 2))
        self.assertEqual(run(behind, 0), State(ROW, [0, 1, 1], [0, 0, 1]))

    def test_run_does_not_change_the_state(self):
        run(STATE, 1)
        self.assertEqual(STATE, State(ROW, [1, 2, 1]))

    def test_a_task_that_is_not_minded_can_be_run_twice_running(self):
        state = State(Net(1, [((0, False),)]), [LONG])
        self.agree(run(run(state, 0), 0).load, (LONG - 2,))

    def test_run_refuses(self):
        self.refuses_all(InvalidTask, no_tasks_of(ROW), lambda task: run(STATE, task))
        self.refuses(NothingLeft, {"task": 0}, run, State(ROW, [0, 1, 1]), 0)
        self.refuses(NothingLeft, {"task": 0}, run, State(ROW, [0, 1, 1], [0, 0, None]), 0)
        self.refuses(Barred, {"nodes": [0, 1]}, run, State(ROW, [1, 1, 1], [0, 0, None]), 0)
        self.refuses(Barred, {"nodes": [1]}, run, State(ROW, [1, 1, 1], [None, 0, None]), 0)

    def test_the_list_of_an_error_is_new(self):
        state = State(ROW, [1, 1, 1], [0, 0, None])
        caught = self.refuses(Barred, {"nodes": [0, 1]}, run, state, 0)
        caught.nodes.append(5)
        self.refuses(Barred, {"nodes": [0, 1]}, run, state, 0)


class OpenTest(Case):
    def test_an_urgent_node_leaves_one_open(self):
        self.agree([open_tasks(STATE, 0), open_tasks(STATE, 1)], [[0], [1]])

    def test_another_node_leaves_open_all_but_what_it_bars(self):
        self.agree(open_tasks(state=STATE, node=2), [1, 2])
        self.agree(open_tasks(State(ROW, [1, 2, 1], [None, None, 2]), 2), [1])
        self.agree(open_tasks(State(ROW, [0, 1, 1], [None, None, 1]), 2), [1, 2])
        self.agree(open_tasks(State(ROW, [0, 0, 0]), 2), [])
        self.agree(open_tasks(State(PAIR, [1, 1], [0, None]), 0), [1])

    def test_counts_that_are_not_fine(self):
        self.agree(open_tasks(State(ROW, [5, 1, 0]), 1), [0, 1])
        self.agree(open_tasks(State(ROW, [5, 1, 0], [None, 0, None]), 1), [1])
        self.agree(safe(State(ROW, [5, 1, 0])), [0, 1])

    def test_open_is_told_from_urgent(self):
        for state in random_states(6, 300):
            for node in range(state.net.nodes):
                hasty = urgent(state, node)
                left = [task for task in state.net.at(node) if state.load[task] > 0 and node not in bars(state, task)]
                self.agree(open_tasks(state, node), left if hasty is None else [hasty])

    def test_open_tasks_refuses(self):
        self.refuses_all(InvalidNode, no_nodes_of(ROW), lambda node: open_tasks(STATE, node))

    def test_new_lists(self):
        self.new_each_time(lambda: open_tasks(STATE, 2))
        self.new_each_time(lambda: safe(STATE))
        self.new_each_time(lambda: spoils(STATE))


class SafeTest(Case):
    def test_safe(self):
        self.agree(safe(STATE), [1, 2])
        self.agree(safe(State(EMPTY, [])), [])
        self.agree(safe(State(ROW, [0, 0, 0])), [])

    def test_safe_is_open_at_each_end(self):
        for state in random_states(7, 300):
            wanted = [task for task in range(len(state.net))
                      if all(task in open_tasks(state, node) for node in state.net.ends(task))]
            self.agree(safe(state), wanted)
            self.assertLessEqual(set(wanted), set(legal(state)))

    def test_fine_counts_stay_fine_just_behind_safe_tasks(self):
        for state in random_states(8, 400, none=0.7) + all_states(PAIR, 3):
            if fine(state):
                for task in legal(state):
                    self.assertEqual(fine(run(state, task)), task in safe(state), state.line())

    def test_spoils(self):
        self.agree(spoils(STATE), [(0, 1, 1)])
        self.agree(spoils(State(EMPTY, [])), [])
        # Both ends of task 1 are urgent for another task: the least one is told.
        row = Net(4, [((0, True), (1, True)), ((1, True), (2, True)), ((2, True), (3, True))])
        self.agree(spoils(State(row, [1, 1, 1], [None, 1, None, None])), [])
        self.agree(spoils(State(row, [3, 2, 3])), [(1, 1, 0)])
        # Only the greater end of task 0 is urgent for another one.
        self.agree(spoils(State(row, [1, 3, 1])), [])
        self.agree(spoils(State(row, [1, 2, 1])), [(0, 1, 1), (2, 2, 1)])

    def test_a_task_spoils_if_it_can_be_run_and_is_not_safe(self):
        for state in random_states(9, 400) + all_states(TRIANGLE, 1):
            wanted = []
            for task in legal(state):
                if task not in safe(state):
                    hasty = [(node, urgent(state, node)) for node in state.net.ends(task)]
                    hasty = [(node, other) for node, other in hasty if other not in (None, task)]
                    wanted.append((task,) + hasty[0])
            self.agree(spoils(state), wanted)


if __name__ == "__main__":
    unittest.main()
