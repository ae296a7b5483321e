"""Points [4], [5], [25] to [29]: states, work and slack, and the lines of states."""

import unittest

from otherfirst.errors import InvalidLasts, InvalidLine, InvalidLoad, InvalidNode, InvalidTask, NotMinded
from otherfirst.nets import Net
from otherfirst.states import State, fine, read_state, slack, slacks, tight, too_often, urgent, work
from tests.helpers import (
    EMPTY, LONG, PAIR, ROW, Case, any_values, no_nodes_of, no_tasks_of, random_states,
)

STATE = State(ROW, [2, 1, 0], [None, 0, 2])
NO_LOADS = [None, True, 0, "", {}, [1, 1], [1, 1, 1, 1], [1, True, 1], [1, -1, 1], [1, None, 1], [1, [1], 1], ROW]
NO_LASTS = [True, False, 0, "", {}, [None, None], [None] * 4, [1, None, None], [None, 2, None], [False, None, None],
            [None, True, None], [None, 3, None], [None, -1, None], [[0], None, None], ROW]


class StateTest(Case):
    def test_attributes(self):
        self.assertIs(STATE.net, ROW)
        self.agree([STATE.load, STATE.lasts], [(2, 1, 0), (None, 0, 2)])
        again = State(net=ROW, load=(2, 1, 0), lasts=(None, 0, 2))
        self.agree([again.load, again.lasts], [(2, 1, 0), (None, 0, 2)])

    def test_fresh_lasts(self):
        for state in (State(ROW, [1, 1, 1]), State(ROW, [1, 1, 1], None), State(ROW, [1, 1, 1], [None] * 3)):
            self.agree(state.lasts, (None, None, None))

    def test_total(self):
        self.agree([STATE.total(), State(ROW, [0, 0, 0]).total(), State(EMPTY, []).total()], [3, 0, 0])
        self.agree(State(ROW, [LONG, LONG, LONG]).total(), 3 * LONG)

    def test_wrong_loads(self):
        self.refuses_all(InvalidLoad, NO_LOADS, lambda load: State(ROW, load))

    def test_wrong_lasts(self):
        self.refuses_all(InvalidLasts, NO_LASTS, lambda lasts: State(ROW, [1, 1, 1], lasts))
        self.refuses_all(InvalidLasts, NO_LASTS, lambda lasts: State(ROW, [1, 1, 1], lasts=lasts))

    def test_the_load_is_checked_first(self):
        self.refuses(InvalidLoad, {"given": [1]}, State, ROW, [1], [1])

    def test_passed_lists_are_not_changed_and_not_kept(self):
        load, lasts = [2, 1, 0], [None, 0, 2]
        state = State(ROW, load, lasts)
        load[0], lasts[0] = 9, 0
        load.append(1)
        self.agree([state.load, state.lasts, state.total()], [(2, 1, 0), (None, 0, 2), 3])

    def test_equal_states(self):
        again = State(Net(3, list(ROW.tasks)), (2, 1, 0), (None, 0, 2))
        self.assertTrue(STATE == again)
        self.assertFalse(STATE != again)
        others = [State(ROW, [2, 1, 1], [None, 0, 2]), State(ROW, [2, 1, 0]), State(ROW, [2, 1, 0], [None, 0, None]),
                  State(Net(3, [((0, True), (1, True)), ((1, True), (2, True)), ((2, True),)]), [2, 1, 0], [None, 0, 2])]
        for other in others:
            self.assertFalse(STATE == other)
            self.assertTrue(STATE != other)

    def test_objects_of_other_classes_are_not_equal(self):
        for value in any_values() + [ROW, STATE.load, (ROW, (2, 1, 0), (None, 0, 2))]:
            if not isinstance(value, State):
                self.assertFalse(STATE == value)


class WorkTest(Case):
    def test_work(self):
        self.agree([work(STATE, 0), work(STATE, 1), work(state=STATE, node=2)], [2, 3, 1])
        self.agree(work(State(EMPTY, []), 1), 0)
        self.agree(work(State(ROW, [LONG, LONG, LONG]), 1), 2 * LONG)

    def test_wrong_nodes(self):
        for call in (work, tight, urgent):
            self.refuses_all(InvalidNode, no_nodes_of(ROW), lambda node: call(STATE, node))

    def test_slack(self):
        # Work and 1, less twice the number left, less 1 for the last.
        self.agree(slack(STATE, 0, 0), 2 + 1 - 4)
        self.agree(slack(STATE, 0, 1), 3 + 1 - 4 - 1)
        self.agree(slack(STATE, 1, 1), 3 + 1 - 2)
        self.agree(slack(state=STATE, task=2, node=2), 1 + 1 - 0 - 1)

    def test_slack_of_long_counts(self):
        state = State(ROW, [LONG, LONG - 3, 0])
        self.agree([slack(state, 0, 0), slack(state, 0, 1)], [1 - LONG, -2])

    def test_slack_refuses(self):
        self.refuses_all(InvalidTask, no_tasks_of(ROW), lambda task: slack(STATE, task, 0))
        self.refuses_all(InvalidNode, no_nodes_of(ROW), lambda node: slack(STATE, 0, node))
        self.refuses(InvalidTask, {"given": 3}, slack, STATE, 3, 3)
        self.refuses(NotMinded, {"task": 1, "node": 2}, slack, STATE, 1, 2)
        self.refuses(NotMinded, {"task": 0, "node": 2}, slack, STATE, 0, 2)
        self.refuses(NotMinded, {"task": 2, "node": 0}, slack, STATE, task=2, node=0)

    def test_slacks(self):
        self.agree(slacks(STATE), [(0, 0, -1), (1, 0, -1), (1, 1, 2), (2, 2, 1)])
        self.agree(slacks(State(EMPTY, [])), [])
        self.new_each_time(lambda: slacks(STATE))

    def test_slacks_are_those_of_slack(self):
        for state in random_states(1, 200):
            told = slacks(state)
            self.assertEqual(told, sorted(told))
            ends = [(node, task) for task, row in enumerate(state.net.tasks) for node, minds in row if minds]
            self.assertEqual([row[:2] for row in told], sorted(ends))
            for node, task, number in told:
                left = sum(state.load[other] for other in state.net.at(node))
                wanted = left + 1 - 2 * state.load[task] - (1 if state.lasts[node] == task else 0)
                self.agree([number, slack(state, task, node)], [wanted, wanted])


class TightTest(Case):
    def test_tight_and_urgent(self):
        state = State(ROW, [1, 1, 0])
        self.agree([tight(state, 0), urgent(state, 0)], [0, 0])
        self.agree([tight(state, 1), urgent(state, 1)], [None, None])
        self.agree([tight(state=state, node=2), urgent(state=state, node=2)], [None, None])

    def test_a_last_can_be_tight_without_work(self):
        rest = State(ROW, [0, 0, 0], [0, 0, None])
        self.agree([tight(rest, 0), tight(rest, 1), tight(rest, 2)], [0, 0, None])
        self.agree([urgent(rest, 0), urgent(rest, 1), urgent(rest, 2)], [None, None, None])

    def test_a_last_that_is_not_minded_is_not_tight(self):
        rest = State(ROW, [0, 0, 0], [None, None, 1])
        self.agree([tight(rest, 2), urgent(rest, 2)], [None, None])

    def test_a_last_with_work_can_be_tight(self):
        state = State(PAIR, [1, 1], [0, None])
        self.agree([tight(state, 0), urgent(state, 0), tight(state, 1), urgent(state, 1)], [0, None, None, None])
        state = State(PAIR, [1, 2], [0, None])
        self.agree([tight(state, 0), urgent(state, 0)], [1, 1])

    def test_never_two(self):
        for state in random_states(2, 300):
            for node in range(state.net.nodes):
                told = [task for at, task, number in slacks(state) if at == node and number == 0]
                self.assertLessEqual(len(told), 1)
                self.agree(tight(state, node), told[0] if told else None)
                hasty = [task for task in told if task != state.lasts[node]]
                self.agree(urgent(state, node), hasty[0] if hasty else None)


class FineTest(Case):
    def test_fine(self):
        self.agree([fine(STATE), too_often(STATE)], [False, [(0, 0), (1, 0)]])
        self.agree([fine(State(ROW, [1, 2, 1])), too_often(State(ROW, [1, 2, 1]))], [True, []])
        self.agree([fine(State(EMPTY, [])), too_often(State(EMPTY, []))], [True, []])
        self.new_each_time(lambda: too_often(STATE))

    def test_a_slack_of_nought_is_fine(self):
        self.agree(fine(State(Net(1, [((0, True),)]), [1])), True)
        self.agree(fine(State(Net(1, [((0, True),)]), [1], [0])), False)
        self.agree(fine(State(Net(1, [((0, False),)]), [LONG], [0])), True)

    def test_too_often_is_a_slack_below_nought(self):
        for state in random_states(3, 200):
            wanted = [(node, task) for node, task, number in slacks(state) if number < 0]
            self.agree(too_often(state), wanted)
            self.agree(fine(state), wanted == [])


class StateLineTest(Case):
    def test_lines(self):
        self.agree(STATE.line(), "2 1 0 / - 0 2")
        self.agree(State(EMPTY, []).line(), "/ - -")
        self.agree(State(ROW, [LONG, 10, 0]).line(), "9" * 20 + " 10 0 / - - -")

    def test_read(self):
        self.assertEqual(read_state(ROW, "2 1 0 / - 0 2"), STATE)
        self.assertEqual(read_state(net=EMPTY, line="/ - -"), State(EMPTY, []))
        self.agree(read_state(ROW, "9" * 20 + " 10 0 / - - -").load, (LONG, 10, 0))
        for state in random_states(4, 200, most_left=12):
            self.assertEqual(read_state(state.net, state.line()), state)

    def test_tasks_of_two_digits(self):
        net = Net(2, [((0, True),)] * 100)
        state = State(net, [0] * 100, [99, None])
        self.assertEqual(read_state(net, "0 " * 100 + "/ 99 -"), state)
        self.refuses(InvalidLine, {"given": "0 " * 100 + "/ 100 -"}, read_state, net, "0 " * 100 + "/ 100 -")

    def test_a_long_line(self):
        net = Net(24, [((0, True), (23, True))] * 100)
        state = State(net, [LONG - task for task in range(100)], [99] + [None] * 22 + [10])
        self.agree(len(state.line()), 100 * 21 + 1 + 3 + 22 * 2 + 3)
        self.assertEqual(read_state(net, state.line()), state)

    def test_no_lines(self):
        wrong = [
            "", " ", "/", "2 1 0", "2 1 0 /", "2 1 0 / - 0", "2 1 0 / - 0 2 -", "2 1 / - 0 2", "2 1 0 0 / - 0 2",
            "2 1 0 - 0 2", "2 1 0 - 0 2 /", " 2 1 0 / - 0 2", "2 1 0 / - 0 2 ", "2  1 0 / - 0 2", "2 1 0  / - 0 2",
            "2 1 0 /  - 0 2", "02 1 0 / - 0 2", "2 1 00 / - 0 2", "2 1 0 / - 00 2", "2 1 0 / - 0 02", "-2 1 0 / - 0 2",
            "+2 1 0 / - 0 2", "2 1 -0 / - 0 2", "2 1 0 / - -1 2", "2 1 0 / -- 0 2", "2 1 0 / 1 0 2", "2 1 0 / - 2 2",
            "2 1 0 / - 0 3", "2 1 0 / None 0 2", "2 1 0 / x 0 2", "2 1 0 /- 0 2", "2 1 0/ - 0 2", "2 1 0 // - 0 2",
            "2 1 0 / - 0 2\n", "2\t1 0 / - 0 2", "2.0 1 0 / - 0 2", "- 1 0 / - 0 2", "2 1 / / - 0 2", "2 1 0 / / 0 2",
            "2 1 \u0660 / - 0 2", "2 1 \u00b2 / - 0 2", "1_0 1 0 / - 0 2", "2 1 0 / - 0 +2",
        ]
        self.refuses_all(InvalidLine, wrong, lambda line: read_state(ROW, line))
        wrong = ["/", "/ -", "/ - - -", " / - -", "0 / - -", "/ - 0", "/  - -"]
        self.refuses_all(InvalidLine, wrong, lambda line: read_state(EMPTY, line))

    def test_other_values(self):
        self.refuses_all(InvalidLine, any_values() + [["2 1 0 / - 0 2"], STATE],
                         lambda line: read_state(ROW, line))


if __name__ == "__main__":
    unittest.main()
