"""Points [6], [8], [42], [43] and [44]: what can be done."""

import unittest

from otherfirst.decide import can_be_done, defect, is_defect, keeping, schedule_of
from otherfirst.errors import Impossible, TooMany
from otherfirst.nets import Net
from otherfirst.rings import rings
from otherfirst.runs import safe
from otherfirst.schedules import is_complete
from otherfirst.states import State, fine, too_often
from tests.helpers import EMPTY, LONG, PAIR, ROW, TRIANGLE, Case, all_states, any_values, random_states
from tests.judge import Search

RING = State(TRIANGLE, [1, 1, 1], [0, 1, 2])
OFTEN = State(ROW, [2, 1, 0])
# A ring at the first two nodes, and a task that is too often at the third one.
BOTH = State(Net(3, [((0, True), (1, True)), ((0, True), (1, True)), ((2, True),)]), [1, 1, 2], [0, 1, None])
FREE = Net(1, [((0, False),)])
MINDED = Net(1, [((0, True),)])


def searched_states():
    states = all_states(PAIR, 3) + all_states(TRIANGLE, 1) + random_states(21, 400)
    states += random_states(22, 200, most_nodes=3, most_tasks=4, none=0)
    return [state for state in states if state.total() < 9]


class SearchTest(Case):
    def test_a_search_of_all_rows_of_runs_finds_the_same(self):
        done = 0
        for state in searched_states():
            search = Search(state.net)
            schedule = search.least(state.load, state.lasts)
            done += schedule is not None
            self.agree(can_be_done(state), schedule is not None)
            self.agree(keeping(state), search.keeping(state.load, state.lasts))
            if schedule is None:
                self.refuses(Impossible, {"defect": defect(state)}, schedule_of, state)
            else:
                self.agree(is_complete(state, schedule_of(state)), True)
                self.agree(keeping(state), safe(state))
                self.assertEqual(safe(state) == [], state.total() == 0)
        self.assertGreater(done, 400)

    def test_a_state_can_be_done_if_its_counts_are_fine_and_it_has_no_ring(self):
        for state in searched_states():
            self.agree(can_be_done(state), fine(state) and rings(state) == [])


class DefectTest(Case):
    def test_none(self):
        for state in (State(EMPTY, []), State(ROW, [1, 2, 1]), State(ROW, [0, 0, 0], [0, 0, 1]),
                      State(FREE, [LONG], [0])):
            self.agree([can_be_done(state), defect(state)], [True, None])

    def test_often(self):
        self.agree([can_be_done(OFTEN), defect(state=OFTEN)], [False, ("often", 0, 0)])
        self.agree(defect(State(MINDED, [LONG])), ("often", 0, 0))
        self.agree(defect(State(TRIANGLE, [0, 3, 1])), ("often", 1, 1))

    def test_ring(self):
        self.agree([can_be_done(state=RING), defect(RING)], [False, ("ring", [(0, 0), (1, 1), (2, 2)])])
        net = Net(4, [((0, True), (1, True)), ((0, True), (1, True)), ((2, True), (3, True)), ((2, True), (3, True))])
        self.agree(defect(State(net, [1, 1, 1, 1], [1, 0, 2, 3])), ("ring", [(0, 1), (1, 0)]))

    def test_a_task_too_often_comes_ahead_of_a_ring(self):
        self.agree([defect(BOTH), rings(BOTH)], [("often", 2, 2), [[(0, 0), (1, 1)]]])

    def test_the_list_is_new(self):
        defect(RING)[1].append("changed")
        self.agree(defect(RING), ("ring", [(0, 0), (1, 1), (2, 2)]))

    def test_defect_is_the_first_one(self):
        for state in searched_states():
            often, closed = too_often(state), rings(state)
            if often:
                self.agree(defect(state), ("often",) + often[0])
            else:
                self.agree(defect(state), ("ring", closed[0]) if closed else None)


class IsDefectTest(Case):
    def test_often(self):
        state = State(ROW, [3, 1, 0])
        self.agree([is_defect(state, ("often", 0, 0)), is_defect(state=state, value=("often", 1, 0))], [True, True])
        for value in [("often", 1, 1), ("often", 2, 2), ("often", False, 0), ("often", 0, False), ("often", True, 0),
                      ["often", 0, 0], ("ring", 0, 0), ("often", (0, 0)), ("often", 0), ("often", 0, 0, 0),
                      ("often", None, None), ("often", [0], 0), ("often", "0", 0), (0, 0), (0, 0, 0),
                      ("often", 0, 0.0), (None, 0, 0), ("often", [0, 0]), ("OFTEN", 0, 0)]:
            self.agree(is_defect(state, value), False)

    def test_ring(self):
        for ring in ([(0, 0), (1, 1), (2, 2)], [(1, 1), (2, 2), (0, 0)], ((2, 2), (0, 0), (1, 1))):
            self.agree(is_defect(RING, ("ring", ring)), True)
            self.agree([is_defect(RING, ["ring", ring]), is_defect(RING, ("often", ring)), is_defect(RING, ring),
                        is_defect(RING, ("ring",) + tuple(ring)), is_defect(RING, (ring,))], [False] * 5)
        self.agree(is_defect(RING, ("ring", [(0, 0), (2, 2), (1, 1)])), False)
        self.agree(is_defect(RING, ("ring", [(0, 0), [1, 1], (2, 2)])), False)
        self.agree(is_defect(RING, ("ring", [(0, 0), (True, 1), (2, 2)])), False)

    def test_either_is_right(self):
        self.agree([is_defect(BOTH, ("often", 2, 2)), is_defect(BOTH, ("ring", [(1, 1), (0, 0)]))], [True, True])

    def test_none_is_never_right(self):
        for state in (OFTEN, RING, State(EMPTY, []), State(ROW, [1, 2, 1])):
            self.agree(is_defect(state, None), False)

    def test_any_value(self):
        for state in (OFTEN, RING, BOTH, State(EMPTY, [])):
            for value in any_values():
                self.assertIn(is_defect(state, value), (True, False))

    def test_what_defect_tells_is_one(self):
        for state in searched_states():
            told = defect(state)
            self.agree(is_defect(state, told), told is not None)
            for node, task in [(node, task) for node in range(state.net.nodes) for task in range(len(state.net))]:
                self.agree(is_defect(state, ("often", node, task)), (node, task) in too_often(state))


class ScheduleOfTest(Case):
    def test_schedules(self):
        self.agree(is_complete(State(ROW, [1, 2, 1]), schedule_of(state=State(ROW, [1, 2, 1]))), True)
        self.agree([schedule_of(State(EMPTY, [])), schedule_of(State(ROW, [0, 0, 0], [0, 0, 2]))], [[], []])
        self.new_each_time(lambda: schedule_of(State(ROW, [1, 2, 1])))

    def test_impossible(self):
        self.refuses(Impossible, {"defect": ("often", 0, 0)}, schedule_of, OFTEN)
        caught = self.refuses(Impossible, {"defect": ("ring", [(0, 0), (1, 1), (2, 2)])}, schedule_of, RING)
        caught.defect[1].append("changed")
        self.refuses(Impossible, {"defect": ("ring", [(0, 0), (1, 1), (2, 2)])}, schedule_of, RING)

    def test_four_hundred_runs(self):
        self.agree(schedule_of(State(FREE, [400])), [0] * 400)
        self.refuses(TooMany, {"count": 401}, schedule_of, State(FREE, [401]))
        state = State(PAIR, [200, 200])
        self.agree(is_complete(state, schedule_of(state)), True)

    def test_too_many_comes_ahead_of_impossible(self):
        self.refuses(Impossible, {"defect": ("often", 0, 0)}, schedule_of, State(MINDED, [400]))
        self.refuses(TooMany, {"count": 401}, schedule_of, State(MINDED, [401]))
        self.refuses(TooMany, {"count": LONG}, schedule_of, State(MINDED, [LONG]))

    def test_a_large_net(self):
        tasks = [((node, True), (other, True)) for node in range(24) for other in range(node + 1, 24)][:100]
        state = State(Net(24, tasks), [4] * 100)
        self.agree(can_be_done(state), True)
        self.agree(is_complete(state, schedule_of(state)), True)


class KeepingTest(Case):
    def test_keeping(self):
        self.agree(keeping(State(ROW, [1, 2, 1])), [1, 2])
        self.agree([keeping(state=OFTEN), keeping(RING), keeping(BOTH), keeping(State(EMPTY, []))], [[], [], [], []])
        self.new_each_time(lambda: keeping(State(ROW, [1, 2, 1])))

    def test_a_state_that_cannot_be_done_keeps_nothing(self):
        # Its own counts tell node 1 of nothing urgent: task 1 is too often there.
        state = State(Net(2, [((0, False),), ((1, True),)]), [1, 2])
        self.agree([safe(state), keeping(state)], [[0, 1], []])

    def test_counts_beyond_lists(self):
        self.agree([can_be_done(State(FREE, [LONG])), keeping(State(FREE, [LONG]))], [True, [0]])
        self.agree([can_be_done(State(MINDED, [LONG])), keeping(State(MINDED, [401]))], [False, []])
        self.agree(keeping(State(PAIR, [LONG, LONG])), [0, 1])


if __name__ == "__main__":
    unittest.main()
