"""Points [2], [3], [9], [22], [23], [24] and [29]: nets, loads and lasts, and the lines of nets."""

import unittest

from otherfirst.errors import InvalidLine, InvalidNode, InvalidNodes, InvalidTask, InvalidTasks, NotAnEnd
from otherfirst.nets import Net, is_lasts, is_load, read_net
from otherfirst.states import State
from tests.helpers import EMPTY, LONG, PAIR, ROW, Case, any_values, no_nodes_of, no_tasks_of


class NetTest(Case):
    def test_attributes(self):
        self.agree(ROW.nodes, 3)
        self.agree(ROW.tasks, (((0, True), (1, True)), ((1, True), (2, False)), ((2, True),)))
        self.agree(len(ROW), 3)
        self.agree(len(EMPTY), 0)
        self.agree(EMPTY.tasks, ())

    def test_by_position_and_by_name(self):
        self.assertEqual(Net(nodes=2, tasks=[((0, True),)]), Net(2, [((0, True),)]))

    def test_numbers_of_nodes(self):
        for nodes in (1, 2, 24):
            self.agree(Net(nodes, []).nodes, nodes)
        values = [0, 25, -1, LONG, True, False, None, "3", [3], (3,), {}, ROW, 3.0]
        self.refuses_all(InvalidNodes, values, lambda nodes: Net(nodes, []))

    def test_nodes_are_checked_ahead_of_tasks(self):
        self.refuses(InvalidNodes, {"given": 0}, Net, 0, None)
        self.refuses(InvalidNodes, {"given": True}, Net, True, [((5, True),)])

    def test_a_hundred_tasks(self):
        tasks = [((0, True), (23, False))] * 100
        self.agree(len(Net(24, tasks)), 100)
        self.agree(Net(24, tuple(tasks)).tasks, tuple(tasks))
        self.refuses_all(InvalidTasks, [tasks + tasks[:1], tuple(tasks + tasks[:1])], lambda rows: Net(24, rows))

    def test_tasks_with_equal_ends(self):
        self.agree(PAIR.at(0), [0, 1])
        self.agree(PAIR.tasks, (((0, True), (1, True)),) * 2)

    def test_wrong_tasks(self):
        wrong = [
            None, True, 0, "", "ab", {}, {"a": 1}, ROW, object(),
            [None], [0], [()], [[(0, True)]], [([0, True],)], [(0, True)], [((0, True), [1, True])],
            [((0,),)], [((0, True, True),)], [((0, 1),)], [((0, 0),)], [((0, None),)], [((0, "!"),)],
            [((True, True),)], [((False, True),)], [((-1, True),)], [((2, True),)], [((None, True),)],
            [(("0", True),)], [((0.0, True),)], [((0, True), (2, True))], [((0, True), (0, True))],
            [((0, True), (0, False))], [((1, True), (0, True))], [((0, True), (1, True), (1, True))],
            [((0, True),), None], (((0, True),), [(1, True)]), [{}], [{"a": True}], ["0!"],
        ]
        self.refuses_all(InvalidTasks, wrong, lambda tasks: Net(2, tasks))
        self.refuses(InvalidTasks, {"given": [((0, True), (1, True), (2, True))]},
                     Net, 3, [((0, True), (1, True), (2, True))])

    def test_passed_lists_are_not_changed_and_not_kept(self):
        tasks = [((0, True), (1, True)), ((1, False),)]
        net = Net(2, tasks)
        self.assertEqual(tasks, [((0, True), (1, True)), ((1, False),)])
        tasks.append(((0, True),))
        tasks[0] = ((1, True),)
        self.agree(net.tasks, (((0, True), (1, True)), ((1, False),)))
        self.agree([len(net), net.at(0), net.at(1)], [2, [0], [0, 1]])

    def test_equal_nets(self):
        again = Net(3, tuple(ROW.tasks))
        self.assertTrue(again == ROW)
        self.assertFalse(again != ROW)
        others = [Net(4, ROW.tasks), Net(3, ROW.tasks[:2]), Net(3, ROW.tasks[::-1]),
                  Net(3, [((0, True), (1, False))] + list(ROW.tasks[1:])), Net(3, [])]
        for other in others:
            self.assertFalse(ROW == other)
            self.assertTrue(ROW != other)

    def test_objects_of_other_classes_are_not_equal(self):
        for value in any_values():
            if not isinstance(value, Net):
                self.assertFalse(ROW == value)
                self.assertFalse(value == ROW)
        self.assertFalse(ROW == ROW.tasks)
        self.assertFalse(EMPTY == State(EMPTY, []))


class EndsTest(Case):
    def test_ends(self):
        self.agree([ROW.ends(0), ROW.ends(1), ROW.ends(task=2)], [(0, 1), (1, 2), (2,)])

    def test_at(self):
        self.agree([ROW.at(0), ROW.at(1), ROW.at(node=2)], [[0], [0, 1], [1, 2]])
        self.agree(EMPTY.at(1), [])
        self.new_each_time(lambda: ROW.at(1))

    def test_far(self):
        self.agree([ROW.far(0, 0), ROW.far(0, 1), ROW.far(1, 1), ROW.far(task=1, node=2)], [1, 0, 2, 1])
        self.agree(ROW.far(2, 2), None)

    def test_minds(self):
        self.agree([ROW.minds(0, 0), ROW.minds(0, 1), ROW.minds(1, 1)], [True, True, True])
        self.agree([ROW.minds(task=1, node=2), ROW.minds(2, 2)], [False, True])
        self.agree(Net(1, [((0, False),)]).minds(0, 0), False)

    def test_wrong_tasks(self):
        self.refuses_all(InvalidTask, no_tasks_of(ROW), ROW.ends)
        for call in (ROW.far, ROW.minds):
            self.refuses_all(InvalidTask, no_tasks_of(ROW), lambda task: call(task, 0))

    def test_wrong_nodes(self):
        self.refuses_all(InvalidNode, no_nodes_of(ROW), ROW.at)
        for call in (ROW.far, ROW.minds):
            self.refuses_all(InvalidNode, no_nodes_of(ROW), lambda node: call(0, node))

    def test_the_task_is_checked_first(self):
        for call in (ROW.far, ROW.minds):
            self.refuses(InvalidTask, {"given": 3}, call, 3, 3)
            self.refuses(InvalidTask, {"given": None}, call, None, None)

    def test_not_an_end(self):
        for call in (ROW.far, ROW.minds):
            self.refuses(NotAnEnd, {"task": 0, "node": 2}, call, 0, 2)
            self.refuses(NotAnEnd, {"task": 2, "node": 0}, call, task=2, node=0)

    def test_a_net_without_tasks(self):
        self.refuses(InvalidTask, {"given": 0}, EMPTY.ends, 0)
        self.refuses(InvalidTask, {"given": 0}, EMPTY.far, 0, 0)


class LoadTest(Case):
    def test_loads(self):
        for value in ([0, 0, 0], (2, 1, 0), [LONG, LONG, LONG]):
            self.agree(is_load(ROW, value), True)
        self.agree(is_load(net=EMPTY, value=[]), True)
        self.agree(is_load(EMPTY, ()), True)

    def test_no_loads(self):
        for value in ([0, 0], [0, 0, 0, 0], [0, -1, 0], [0, True, 0], [False, 0, 0], [0, None, 0], [0, "0", 0],
                      [0, [0], 0], {}, "000", {"a": 0, "b": 0, "c": 0}, 3, None, [0, 0.0, 0], ROW):
            self.agree(is_load(ROW, value), False)
        self.agree([is_load(EMPTY, None), is_load(EMPTY, {}), is_load(EMPTY, ""), is_load(EMPTY, [0])], [False] * 4)

    def test_lasts(self):
        for value in ([None, None, None], (0, 0, 1), [None, 1, 2], (0, 1, None)):
            self.agree(is_lasts(ROW, value), True)
        self.agree(is_lasts(net=EMPTY, value=[None, None]), True)

    def test_no_lasts(self):
        for value in ([None, None], [None] * 4, [1, None, None], [None, 2, None], [None, None, 0], [False, None, None],
                      [None, True, None], [None, -1, None], [None, 3, None], ["0", None, None], [[0], None, None],
                      None, {}, "", "---", 0, True, [0.0, None, None], ROW, {"a": None, "b": None, "c": None}):
            self.agree(is_lasts(ROW, value), False)
        self.agree([is_lasts(EMPTY, [None]), is_lasts(EMPTY, [0, None]), is_lasts(EMPTY, [])], [False] * 3)

    def test_any_value(self):
        for net in (ROW, PAIR, EMPTY, Net(1, [((0, True),)])):
            for value in any_values():
                self.assertIn(is_load(net, value), (True, False))
                self.assertIn(is_lasts(net, value), (True, False))


class NetLineTest(Case):
    LINES = ["1:", "24:", "3: 0!1! 1!2? 2!", "3:", "2: 0!1! 0!1! 0?1?", "1: 0?", "24: 0!23? 22?23! 10?",
             "24:" + " 0!23?" * 100]

    def test_lines(self):
        self.agree(ROW.line(), "3: 0!1! 1!2? 2!")
        self.agree(Net(3, []).line(), "3:")
        self.agree(Net(24, [((10, False),), ((9, True), (23, False))]).line(), "24: 10? 9!23?")

    def test_read(self):
        self.assertEqual(read_net("3: 0!1! 1!2? 2!"), ROW)
        self.agree(read_net(line="3: 0!1! 1!2? 2!").tasks, ROW.tasks)
        for line in self.LINES:
            net = read_net(line)
            self.agree(net.line(), line)
            self.assertEqual(net, Net(net.nodes, net.tasks))

    def test_no_lines(self):
        wrong = [
            "", " ", ":", "0:", "25:", "03:", "3", "3 :", " 3:", "3: ", "3:  0!", "3: 0! ", "3: 0!  1!", "3:0!", "3:\n",
            "3:\n0!", "3: 0!\n", "3:\t0!", "-3:", "+3:", "3.0:", "x:", "3::", "3:: 0!", "3: 0", "3: !", "3: 0!!",
            "3: 3!", "3: 24!", "3: 1!0!", "3: 0!0!", "3: 0!0?", "3: 0!1!2!", "3: 0!1", "3: 01!", "3: 00!", "3: 0!02!",
            "3: -1!", "3: +1!", "3: 0.", "3: a!", "3: 0!1 !", "3: 0 !", "3: 0!,1!", "3: :", "3: 0! /",
            "24:" + " 0!23?" * 101, "\u0663:", "3: \u0660!", "\u00b2:", "3: \u00b2!", "1_0:", "3: 1_0!", "9" * 3990 + ":",
        ]
        self.refuses_all(InvalidLine, wrong, read_net)

    def test_other_values(self):
        values = [value for value in any_values() if value != "3:"]
        self.refuses_all(InvalidLine, values + [["3:"], ("3:",), ROW, b"3:"], read_net)


if __name__ == "__main__":
    unittest.main()
