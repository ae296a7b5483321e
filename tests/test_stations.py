"""Points [51] to [58]: stations, one by one."""

import copy
import random
import unittest

from otherfirst.errors import (
    InvalidLast, InvalidLetter, InvalidNode, InvalidNumber, InvalidRows, InvalidTask, NotAsking,
)
from otherfirst.nets import Net
from otherfirst.runs import open_tasks
from otherfirst.states import State, slack
from otherfirst.stations import Station, is_letter, station_of
from tests.helpers import EMPTY, LONG, ROW, Case, any_values, no_nodes_of, random_states

KINDS = ("ask", "yes", "done", "off")


def inside(station):
    """All that a station keeps."""
    return copy.deepcopy(vars(station))


def low(left=3, last=None, minds=False, others=()):
    """Station 3, which answers task 0 of station 8."""
    return Station(3, [(0, 8, minds, left)] + list(others), last=last)


def high(left=3, last=None, minds=False, others=()):
    """Station 8, which asks task 0 of station 3."""
    return Station(8, [(0, 3, minds, left)] + list(others), last=last)


def middle():
    """Station 5: it answers tasks 1, 2 and 3, asks tasks 4 and 6, and task 7 is its own. It minds none."""
    rows = [(1, 9, False, 2), (2, 20, False, 2), (3, 20, False, 2), (4, 0, False, 2), (6, 1, False, 2),
            (7, None, False, 2)]
    return Station(5, rows)


def counts(station):
    return station.knows()[2]


class CreationTest(Case):
    ROWS = [(0, None, True, 2), (3, 5, False, 0), (99, 23, True, LONG)]

    def test_attributes(self):
        station = Station(7, self.ROWS, last=3)
        self.agree([station.number, station.last, station.held], [7, 3, None])
        again = Station(number=7, rows=tuple(self.ROWS))
        self.agree([again.number, again.last, again.held], [7, None, None])
        self.assertRaises(TypeError, lambda: Station(7, self.ROWS, 3))

    def test_left_and_wanted(self):
        station = Station(7, self.ROWS)
        self.agree([station.left(0), station.left(3), station.left(task=99)], [2, 0, LONG])
        self.agree([station.wanted(0), station.wanted(3), station.wanted(task=99)], [0, 0, 0])
        for call in (station.left, station.wanted, station.order):
            self.refuses_all(InvalidTask, [1, 2, 100, -1, None, True, False, "0", [0], (0,), {}, 0.0], call)

    def test_numbers(self):
        for number in (0, 23):
            self.agree(Station(number, []).number, number)
        values = [24, -1, None, True, False, "0", [0], (0,), {}, LONG, 0.0]
        self.refuses_all(InvalidNumber, values, lambda number: Station(number, []))

    def test_rows(self):
        for rows in ([], (), [(0, 0, True, 0)], [(0, 23, False, LONG)], [(99, None, True, 1)],
                     [(task, None, True, 1) for task in range(100)]):
            self.agree(len(counts(Station(5, rows))), len(rows))

    def test_wrong_rows(self):
        right = (1, 2, True, 1)
        wrong = [
            None, True, 0, "", {}, {"a": 1}, [None], [[1, 2, True, 1]], [(1, 2, True)], [(1, 2, True, 1, 0)], [()],
            [(-1, 2, True, 1)], [(100, 2, True, 1)], [(True, 2, True, 1)], [(None, 2, True, 1)], [("1", 2, True, 1)],
            [(1, 5, True, 1)], [(1, 24, True, 1)], [(1, -1, True, 1)], [(1, True, True, 1)], [(1, "2", True, 1)],
            [(1, [2], True, 1)], [(1, 2, 1, 1)], [(1, 2, 0, 1)], [(1, 2, None, 1)], [(1, 2, True, -1)],
            [(1, 2, True, True)], [(1, 2, True, None)], [(1, 2, True, "1")], [(1, 2, True, [1])],
            [right, right], [right, (0, 2, True, 1)], [right, (1, None, False, 0)], [right, None], [right, [2, 3, True, 1]],
            [(0.0, 2, True, 1)], ROW,
        ]
        self.refuses_all(InvalidRows, wrong, lambda rows: Station(5, rows))

    def test_lasts(self):
        for last in (None, 0, 3, 99):
            self.agree(Station(7, self.ROWS, last=last).last, last)
        values = [1, 2, -1, 100, True, False, "0", [0], (0,), {}, 0.0]
        self.refuses_all(InvalidLast, values, lambda last: Station(7, self.ROWS, last=last))
        self.refuses(InvalidLast, {"given": 0}, Station, 7, [], last=0)

    def test_the_order_of_errors(self):
        self.refuses(InvalidNumber, {"given": 24}, Station, 24, None, last=5)
        self.refuses(InvalidRows, {"given": None}, Station, 23, None, last=5)
        self.refuses(InvalidRows, {"given": [(0, 1, 1, 1)]}, Station, 23, [(0, 1, 1, 1)], last=5)

    def test_the_passed_list_is_not_changed_and_not_kept(self):
        rows = [(0, 1, True, 1), (1, None, False, 2)]
        station = Station(5, rows)
        station.order(1)
        station.tick()
        self.assertEqual(rows, [(0, 1, True, 1), (1, None, False, 2)])
        rows.append((2, None, True, 9))
        rows[0] = (0, 2, True, 7)
        self.agree([row[0] for row in counts(station)], [0, 1])
        self.agree(station.left(0), 1)

    def test_station_of(self):
        state = State(ROW, [2, 1, 0], [None, 0, 2])
        self.agree(station_of(state, 0).knows(), (None, None, ((0, 2, 0),)))
        self.agree(station_of(state=state, node=1).knows(), (0, None, ((0, 2, 0), (1, 1, 0))))
        self.agree(station_of(state, 2).knows(), (2, None, ((1, 1, 0), (2, 0, 0))))
        self.agree([station_of(state, node).number for node in range(3)], [0, 1, 2])
        self.agree(station_of(State(EMPTY, []), 1).knows(), (None, None, ()))
        self.refuses_all(InvalidNode, no_nodes_of(ROW), lambda node: station_of(state, node))

    def test_stations_are_new(self):
        state = State(ROW, [1, 1, 1])
        first = station_of(state, 2)
        first.tick()
        self.agree(station_of(state, 2).knows(), (None, None, ((1, 1, 0), (2, 1, 0))))
        self.assertEqual(state, State(ROW, [1, 1, 1]))


class OpenTest(Case):
    def test_open_tasks_are_those_of_the_node(self):
        for state in random_states(51, 200, most_left=3):
            for node in range(state.net.nodes):
                self.agree(station_of(state, node).open_tasks(), open_tasks(state, node))

    def test_addable(self):
        for state in random_states(52, 200, most_left=3):
            net = state.net
            for node in range(net.nodes):
                wanted = [task for task in net.at(node)
                          if not net.minds(task, node) or slack(state, task, node) >= 1]
                self.agree(station_of(state, node).addable(), wanted)

    def test_what_is_not_left_may_be_addable(self):
        station = Station(0, [(0, 1, True, 0), (1, None, True, 1), (2, None, False, 0)], last=2)
        self.agree([station.open_tasks(), station.addable()], [[1], [0, 2]])

    def test_new_lists(self):
        station = middle()
        self.new_each_time(station.open_tasks)
        self.new_each_time(station.addable)


class LetterTest(Case):
    def test_the_end_that_answers(self):
        station = low()
        for sort in ("run", "more"):
            for kind in ("ask", "done", "off"):
                for number in (1, 2, LONG):
                    self.agree(is_letter(station, (kind, sort, 0, number, 3)), True)
            self.agree(is_letter(station=station, value=("yes", sort, 0, 1, 3)), False)

    def test_the_end_that_asks(self):
        station = high()
        for sort in ("run", "more"):
            self.agree(is_letter(station, ("yes", sort, 0, 1, 8)), True)
            for kind in ("ask", "done", "off"):
                self.agree(is_letter(station, (kind, sort, 0, 1, 8)), False)

    def test_own_tasks_and_other_tasks(self):
        for kind in KINDS:
            for task in (7, 0, 5, 8, 99):
                self.agree(is_letter(middle(), (kind, "run", task, 1, 5)), False)

    WRONG = [
        ["ask", "run", 0, 1, 3], ("ask", "run", 0, 1), ("ask", "run", 0, 1, 3, 3), (), ("ask", "run", 0, 0, 3),
        ("ask", "run", 0, -1, 3), ("ask", "run", 0, True, 3), ("ask", "run", 0, None, 3), ("ask", "run", 0, "1", 3),
        ("ask", "run", 1, 1, 3), ("ask", "run", False, 1, 3), ("ask", "run", None, 1, 3), ("ask", "run", [0], 1, 3),
        ("ask", "run", {}, 1, 3), ("ask", "run", 0, 1, 8), ("ask", "run", 0, 1, None), ("ask", "run", 0, 1, "3"),
        ("ask", "run", 0, 1, 4), ("ask", "walk", 0, 1, 3), ("ask", "", 0, 1, 3), ("ask", None, 0, 1, 3),
        ("ask", 0, 0, 1, 3), ("ask", ["run"], 0, 1, 3), ("no", "run", 0, 1, 3), ("", "run", 0, 1, 3),
        (None, "run", 0, 1, 3), (["ask"], "run", 0, 1, 3), ({}, {}, {}, {}, {}), ("yes", "run", 0, 1, 3),
        ("run", "ask", 0, 1, 3), "ask", None, True, {}, ROW, ("ask", "run", 0, [1], 3), ("ask", "run", 0, 1.0, 3),
        ("ask", "run", 0.0, 1, 3), ("ask", "run", 0, 1, 3.0), ("ASK", "run", 0, 1, 3),
    ]

    def test_no_letters(self):
        for value in self.WRONG:
            self.agree(is_letter(low(), value), False)
        one = Station(1, [(1, 2, True, 1)])
        self.agree(is_letter(one, ("ask", "run", 1, 1, 1)), True)
        for value in (("ask", "run", True, 1, 1), ("ask", "run", 1, True, 1), ("ask", "run", 1, 1, True)):
            self.agree(is_letter(one, value), False)

    def test_take_refuses(self):
        station = low()
        station.take(("ask", "run", 0, 4, 3))
        before = inside(station)
        self.refuses_all(InvalidLetter, self.WRONG, station.take)
        self.assertEqual(inside(station), before)
        station = high()
        for kind in ("ask", "done", "off"):
            self.refuses(InvalidLetter, {"given": (kind, "run", 0, 1, 8)}, station.take, letter=(kind, "run", 0, 1, 8))
        self.assertEqual(inside(station), inside(high()))

    def test_any_value(self):
        for station in (low(), high(), Station(0, [(0, 1, True, 1)]), Station(1, [])):
            for value in any_values():
                self.assertIn(is_letter(station, value), (True, False))
        self.agree(is_letter(Station(0, [(0, 1, True, 1)]), ("ask", "run", 0, 1, 0)), True)


class OrderTest(Case):
    def test_order(self):
        station = middle()
        for task in (4, 7, 4):
            self.agree(station.order(task), None)
        self.agree([station.wanted(task) for task in (1, 2, 3, 4, 6, 7)], [0, 0, 0, 2, 0, 1])

    def test_refusals(self):
        station = middle()
        station.order(task=4)
        before = inside(station)
        self.refuses_all(InvalidTask, [0, 5, 8, 100, -1, None, True, "4", [4], {}], station.order)
        for task in (1, 2, 3):
            self.refuses(NotAsking, {"task": task}, station.order, task)
        self.assertEqual(inside(station), before)


class AskTest(Case):
    """What the end that asks does."""

    def test_a_tick_asks_for_open_tasks_and_marks_their_offers(self):
        station = high()
        self.agree(station.tick(), [("ask", "run", 0, 1, 3)])
        self.agree(station.held, None)
        # The offer is marked now: a late "yes" of another number does not make the station speak of it.
        self.agree(station.take(("yes", "run", 0, 7, 8)), [])

    def test_asks_go_out_by_ascending_tasks(self):
        station = Station(9, [(2, 5, False, 1), (4, 1, False, 1), (7, 3, False, 1)])
        self.agree(station.tick(), [("ask", "run", 2, 1, 5), ("ask", "run", 4, 1, 1), ("ask", "run", 7, 1, 3)])

    def test_a_marked_offer_is_left_out_until_a_tick_or_a_fall(self):
        station = Station(9, [(2, 5, False, 2), (4, 1, False, 2), (5, 20, False, 1)])
        station.tick()
        # It speaks behind the "yes": of task 2 the next offer is not marked, of task 4 it is.
        self.agree(station.take(("yes", "run", 2, 1, 9)), [("done", "run", 2, 1, 5), ("ask", "run", 2, 2, 5)])
        self.agree(station.tick(), [("ask", "run", 2, 2, 5), ("ask", "run", 4, 1, 1)])
        station.fall()
        told = station.take(("yes", "run", 2, 2, 9))
        self.agree(told, [("done", "run", 2, 2, 5), ("ask", "run", 4, 1, 1)])

    def test_a_task_that_is_not_open_is_asked_as_a_more_if_one_is_wanted_and_addable(self):
        station = high(left=0)
        self.agree(station.tick(), [])
        station.order(0)
        self.agree(station.tick(), [("ask", "more", 0, 1, 3)])
        # An open task is asked as a run, also if one is wanted.
        station = high(left=1)
        station.order(0)
        self.agree(station.tick(), [("ask", "run", 0, 1, 3)])

    def test_a_wanted_task_that_is_not_addable_is_not_asked_and_not_marked(self):
        station = high(left=1, last=0, minds=True, others=[(1, None, False, 1)])
        station.order(0)
        self.agree([station.open_tasks(), station.addable()], [[1], [1]])
        # The tick runs task 1, and then task 0 is urgent.
        self.agree(station.tick(), [("ask", "run", 0, 1, 3)])
        station = high(left=0, last=0, minds=True)
        station.order(0)
        self.agree([station.addable(), station.tick()], [[], []])
        station.forget()
        # The offer was not marked: the station speaks of it at once.
        self.agree(station.take(("yes", "run", 0, 5, 8)), [])
        self.agree(station.tick(), [("ask", "more", 0, 1, 3)])

    def test_nothing_is_marked_for_a_task_that_is_not_asked(self):
        station = Station(9, [(0, 1, True, 1), (1, 2, False, 1)], last=0)
        self.agree(station.tick(), [("ask", "run", 1, 1, 2)])
        # Behind the run of task 1 task 0 is open, and its offer is not marked.
        self.agree(station.take(("yes", "run", 1, 1, 9)), [("done", "run", 1, 1, 2), ("ask", "run", 0, 1, 1)])

    def test_the_sort_of_an_offer_is_found_anew(self):
        station = high(left=1, minds=True, last=0, others=[(1, None, False, 0), (2, 1, False, 1)])
        station.order(0)
        self.agree(station.tick(), [("ask", "run", 2, 1, 1)])
        station.forget()
        self.agree(station.tick(), [("ask", "run", 0, 1, 3), ("ask", "run", 2, 1, 1)])
        station = high(left=0)
        station.order(0)
        self.agree(station.tick(), [("ask", "more", 0, 1, 3)])
        self.agree(station.take(("yes", "more", 0, 1, 8)), [("done", "more", 0, 1, 3), ("ask", "run", 0, 2, 3)])


class YesTest(Case):
    """How the end that asks takes a "yes"."""

    def test_a_run_is_made(self):
        station = high()
        station.tick()
        self.agree(station.take(("yes", "run", 0, 1, 8)), [("done", "run", 0, 1, 3), ("ask", "run", 0, 2, 3)])
        self.agree(station.knows(), (0, None, ((0, 2, 0),)))
        self.agree([station.log(), station.decided()], [[("run", 0)], [("run", 0)]])

    def test_a_more_is_made_and_one_less_is_wanted(self):
        station = high(left=0)
        for _ in range(2):
            station.order(0)
        station.tick()
        told = station.take(("yes", "more", 0, 1, 8))
        self.agree(told, [("done", "more", 0, 1, 3), ("ask", "run", 0, 2, 3)])
        self.agree(station.knows(), (None, None, ((0, 1, 1),)))
        self.agree([station.log(), station.decided()], [[("more", 0)], [("more", 0)]])

    def test_a_run_that_is_not_open_is_off(self):
        station = high(left=1, minds=True)
        station.tick()
        station.take(("yes", "run", 0, 1, 8))
        self.agree(station.open_tasks(), [])
        self.agree(station.take(("yes", "run", 0, 2, 8)), [("off", "run", 0, 2, 3)])
        self.agree(station.knows(), (0, None, ((0, 0, 0),)))
        self.agree([station.log(), station.decided()], [[("run", 0)], [("run", 0)]])

    def test_a_more_that_is_not_wanted_is_off(self):
        station = high(left=1)
        self.agree(station.addable(), [0])
        self.agree(station.take(("yes", "more", 0, 1, 8)), [("off", "more", 0, 1, 3), ("ask", "run", 0, 2, 3)])
        self.agree(station.knows(), (None, None, ((0, 1, 0),)))

    def test_a_more_that_is_not_addable_is_off(self):
        station = high(left=1, minds=True)
        station.order(0)
        self.agree([station.addable(), station.open_tasks()], [[], [0]])
        self.agree(station.take(("yes", "more", 0, 1, 8)), [("off", "more", 0, 1, 3), ("ask", "run", 0, 2, 3)])
        self.agree(station.knows(), (None, None, ((0, 1, 1),)))

    def test_a_run_is_judged_by_the_sort_of_the_letter(self):
        # The station asked for a more, but a run is agreed to: the task is not open, so it is off.
        station = high(left=0)
        station.order(0)
        self.agree(station.tick(), [("ask", "more", 0, 1, 3)])
        told = station.take(("yes", "run", 0, 1, 8))
        self.agree(told, [("off", "run", 0, 1, 3), ("ask", "more", 0, 2, 3)])
        # And the other way round.
        station = high(left=1)
        station.order(0)
        self.agree(station.tick(), [("ask", "run", 0, 1, 3)])
        told = station.take(("yes", "more", 0, 1, 8))
        self.agree(told, [("done", "more", 0, 1, 3), ("ask", "run", 0, 2, 3)])
        self.agree(station.knows(), (None, None, ((0, 2, 0),)))

    def test_a_station_that_holds_an_offer_is_off_and_does_not_speak(self):
        for sort in ("run", "more"):
            station = middle()
            station.order(4)
            station.take(("ask", "run", 1, 1, 5))
            self.agree(station.held, ("run", 1, 1))
            self.agree(station.take(("yes", sort, 4, 1, 5)), [("off", sort, 4, 1, 0)])
            self.agree(station.held, ("run", 1, 1))
            self.agree([station.left(4), station.wanted(4), station.log()], [2, 1, []])
            # The next number is present.
            self.agree(station.take(("off", "run", 1, 1, 5)), [("ask", "run", 4, 2, 0), ("ask", "run", 6, 1, 1)])

    def test_the_next_offer_has_no_mark(self):
        station = middle()
        station.tick()
        station.take(("ask", "run", 1, 1, 5))
        station.take(("yes", "run", 4, 1, 5))
        # Task 6 is still marked.
        self.agree(station.take(("off", "run", 1, 1, 5)), [("ask", "run", 4, 2, 0)])

    def test_the_offer_ahead_is_answered_again_as_it_went(self):
        station = high()
        station.tick()
        station.take(("yes", "run", 0, 1, 8))
        before = inside(station)
        for sort in ("run", "more", "run"):
            self.agree(station.take(("yes", sort, 0, 1, 8)), [("done", sort, 0, 1, 3)])
        self.assertEqual(inside(station), before)
        station = high(left=0)
        station.take(("yes", "run", 0, 1, 8))
        before = inside(station)
        for sort in ("run", "more"):
            self.agree(station.take(("yes", sort, 0, 1, 8)), [("off", sort, 0, 1, 3)])
        self.assertEqual(inside(station), before)

    def test_it_is_answered_again_also_while_an_offer_is_held(self):
        station = middle()
        station.take(("yes", "run", 4, 1, 5))
        station.take(("ask", "run", 1, 1, 5))
        self.agree(station.take(("yes", "run", 4, 1, 5)), [("done", "run", 4, 1, 0)])
        self.agree(station.held, ("run", 1, 1))

    def test_the_way_of_the_offer_just_ahead_counts(self):
        station = high(left=1)
        station.take(("yes", "run", 0, 1, 8))
        station.take(("yes", "run", 0, 2, 8))
        self.agree(station.take(("yes", "run", 0, 2, 8)), [("off", "run", 0, 2, 3)])
        self.agree(station.take(("yes", "run", 0, 1, 8)), [])

    def test_with_any_other_number_nothing_happens(self):
        station = high()
        station.tick()
        for number in (1, 2, 3):
            station.take(("yes", "run", 0, number, 8))
        before = inside(station)
        for number in (1, 2, 5, 6, LONG):
            for sort in ("run", "more"):
                self.agree(station.take(("yes", sort, 0, number, 8)), [])
        self.assertEqual(inside(station), before)

    def test_behind_a_yes_the_station_speaks(self):
        # An offer that it was not willing to take waits, and is taken behind the run.
        station = Station(5, [(0, 9, True, 1), (1, 0, False, 2), (2, None, False, 0)], last=0)
        self.agree(station.take(("ask", "run", 0, 1, 5)), [("ask", "run", 1, 1, 0)])
        told = station.take(("yes", "run", 1, 1, 5))
        self.agree(told, [("done", "run", 1, 1, 0), ("yes", "run", 0, 1, 9)])
        self.agree(station.held, ("run", 0, 1))


class AnswerTest(Case):
    """How the end that answers takes an "ask"."""

    def test_an_offer_is_held(self):
        station = low()
        self.agree(station.take(("ask", "run", 0, 1, 3)), [("yes", "run", 0, 1, 8)])
        self.agree(station.knows(), (None, ("run", 0, 1), ((0, 3, 0),)))
        station = low(left=0)
        self.agree(station.take(letter=("ask", "more", 0, 5, 3)), [("yes", "more", 0, 5, 8)])
        self.agree(station.held, ("more", 0, 5))
        self.agree([station.log(), station.left(0)], [[], 0])

    def test_it_is_not_willing_to_run_what_is_not_open(self):
        station = low(left=0)
        self.agree(station.take(("ask", "run", 0, 1, 3)), [])
        self.agree(station.held, None)
        station = low(left=2, last=0, minds=True, others=[(1, None, False, 2)])
        self.agree(station.take(("ask", "run", 0, 1, 3)), [])
        self.agree(station.held, None)

    def test_it_is_not_willing_to_add_what_is_not_addable(self):
        station = low(left=1, minds=True)
        self.agree([station.open_tasks(), station.take(("ask", "more", 0, 1, 3)), station.held], [[0], [], None])
        self.agree(station.take(("ask", "run", 0, 1, 3)), [("yes", "run", 0, 1, 8)])

    def test_a_more_need_not_be_open(self):
        station = low(left=1, last=0, minds=True, others=[(1, None, False, 5)])
        self.agree([station.open_tasks(), station.addable()], [[1], [0, 1]])
        self.agree(station.take(("ask", "more", 0, 1, 3)), [("yes", "more", 0, 1, 8)])

    def test_an_ask_again_is_answered_again_with_the_sort_held(self):
        station = low()
        station.take(("ask", "run", 0, 2, 3))
        before = inside(station)
        for sort in ("run", "more"):
            self.agree(station.take(("ask", sort, 0, 2, 3)), [("yes", "run", 0, 2, 8)])
        self.assertEqual(inside(station), before)

    def test_an_ask_of_another_number_waits(self):
        for number in (1, 3):
            station = low()
            station.take(("ask", "run", 0, 2, 3))
            self.agree(station.take(("ask", "more", 0, number, 3)), [])
            self.agree(station.held, ("run", 0, 2))
            waits = [("yes", "more", 0, 3, 8)] if number == 3 else []
            self.agree(station.take(("off", "run", 0, 2, 3)), waits)

    def test_a_later_ask_of_a_task_takes_the_place_of_the_waiting_one(self):
        station = low(left=0)
        station.take(("ask", "run", 0, 5, 3))
        self.agree(station.take(("ask", "more", 0, 4, 3)), [("yes", "more", 0, 4, 8)])
        station.take(("ask", "run", 0, 9, 3))
        station.take(("ask", "more", 0, 7, 3))
        self.agree(station.take(("done", "more", 0, 4, 3)), [("yes", "more", 0, 7, 8)])
        self.agree(station.take(("done", "more", 0, 7, 3)), [])
        self.agree([station.held, station.left(0)], [None, 2])

    def test_an_ask_that_is_not_above_the_settled_number_is_nothing(self):
        station = low()
        station.take(("ask", "run", 0, 4, 3))
        station.take(("off", "run", 0, 4, 3))
        before = inside(station)
        for number in (1, 3, 4):
            self.agree(station.take(("ask", "run", 0, number, 3)), [])
        self.assertEqual(inside(station), before)
        self.agree(station.take(("ask", "run", 0, 5, 3)), [("yes", "run", 0, 5, 8)])

    def test_the_greatest_far_end_is_chosen_and_then_the_least_task(self):
        asks = [("ask", "run", 1, 1, 5), ("ask", "run", 3, 1, 5), ("ask", "run", 2, 1, 5)]
        for order in (asks, asks[::-1], asks[1:] + asks[:1]):
            station = middle()
            station.take(("ask", "run", 1, 7, 5))
            for letter in order:
                station.take(letter[:3] + (8,) + letter[4:])
            self.agree(station.take(("off", "run", 1, 7, 5)), [("yes", "run", 2, 8, 20)])
            self.agree(station.take(("off", "run", 2, 8, 5)), [("yes", "run", 3, 8, 20)])
            self.agree(station.take(("off", "run", 3, 8, 5)), [("yes", "run", 1, 8, 9)])

    def test_one_that_it_is_not_willing_to_take_is_not_chosen(self):
        station = Station(5, [(0, 9, False, 1), (1, 20, False, 0)])
        station.take(("ask", "run", 1, 1, 5))
        self.agree(station.take(("ask", "run", 0, 1, 5)), [("yes", "run", 0, 1, 9)])
        # The other one goes on waiting.
        station.take(("ask", "more", 1, 1, 5))
        self.agree(station.take(("done", "run", 0, 1, 5)), [("yes", "more", 1, 1, 20)])

    def test_a_held_offer_waits_no_longer(self):
        station = low()
        station.take(("ask", "run", 0, 1, 3))
        self.agree(station.take(("off", "run", 0, 1, 3)), [])
        self.agree(station.tick(), [])

    def test_a_station_that_is_asked_in_vain_speaks(self):
        station = Station(5, [(0, 9, False, 0), (1, 0, False, 1), (2, 1, False, 1)])
        self.agree(station.take(("ask", "run", 0, 1, 5)), [("ask", "run", 1, 1, 0), ("ask", "run", 2, 1, 1)])
        self.agree(station.take(("ask", "run", 0, 1, 5)), [])

    def test_an_ask_that_waits_while_another_one_is_held_makes_nobody_speak(self):
        station = middle()
        station.take(("ask", "run", 1, 1, 5))
        self.agree(station.take(("ask", "run", 2, 1, 5)), [])
        self.agree(station.held, ("run", 1, 1))


class EndTest(Case):
    """How the end that answers takes a "done" or an "off"."""

    def test_done(self):
        station = low()
        station.take(("ask", "run", 0, 1, 3))
        self.agree(station.take(("done", "run", 0, 1, 3)), [])
        self.agree(station.knows(), (0, None, ((0, 2, 0),)))
        self.agree([station.log(), station.decided()], [[("run", 0)], []])
        station.take(("ask", "more", 0, 2, 3))
        station.take(("done", "more", 0, 2, 3))
        self.agree(station.knows(), (0, None, ((0, 3, 0),)))
        self.agree([station.log(), station.decided()], [[("run", 0), ("more", 0)], []])

    def test_the_sort_held_counts(self):
        station = low()
        station.take(("ask", "run", 0, 1, 3))
        station.take(("done", "more", 0, 1, 3))
        self.agree(station.log(), [("run", 0)])
        station.take(("ask", "more", 0, 2, 3))
        station.take(("done", "run", 0, 2, 3))
        self.agree(station.log(), [("run", 0), ("more", 0)])

    def test_off(self):
        station = low()
        station.take(("ask", "run", 0, 1, 3))
        self.agree(station.take(("off", "run", 0, 1, 3)), [])
        self.agree(station.knows(), (None, None, ((0, 3, 0),)))
        self.agree([station.log(), station.decided()], [[], []])

    def test_nothing_happens_for_offers_that_are_not_held(self):
        station = low()
        for kind in ("done", "off"):
            self.agree(station.take((kind, "run", 0, 1, 3)), [])
        self.assertEqual(inside(station), inside(low()))
        # It is not settled either.
        self.agree(station.take(("ask", "run", 0, 1, 3)), [("yes", "run", 0, 1, 8)])
        before = inside(station)
        for kind in ("done", "off"):
            self.agree(station.take((kind, "run", 0, 2, 3)), [])
        self.assertEqual(inside(station), before)
        station = middle()
        station.take(("ask", "run", 2, 3, 5))
        before = inside(station)
        for kind in ("done", "off"):
            for task in (1, 3):
                self.agree(station.take((kind, "run", task, 3, 5)), [])
        self.assertEqual(inside(station), before)

    def test_twice_is_once(self):
        station = low()
        station.take(("ask", "run", 0, 1, 3))
        station.take(("done", "run", 0, 1, 3))
        before = inside(station)
        for kind in ("done", "off"):
            self.agree(station.take((kind, "run", 0, 1, 3)), [])
        self.assertEqual(inside(station), before)

    def test_the_number_is_settled(self):
        for kind in ("done", "off"):
            station = low()
            station.take(("ask", "run", 0, 3, 3))
            station.take((kind, "run", 0, 3, 3))
            for number in (1, 2, 3):
                self.agree(station.take(("ask", "run", 0, number, 3)), [])
            self.agree(station.take(("ask", "run", 0, 4, 3)), [("yes", "run", 0, 4, 8)])

    def test_a_waiting_offer_that_is_not_above_it_is_dropped(self):
        for number, told in ((2, []), (3, []), (4, [("yes", "more", 0, 4, 8)])):
            for kind in ("done", "off"):
                station = low()
                station.take(("ask", "more", 0, number, 3))
                if number == 4:
                    self.agree(station.held, ("more", 0, 4))
                station = low(left=0)
                station.take(("ask", "more", 0, 3, 3))
                # Number 3 itself is held, so it cannot wait; an "ask" of it is answered.
                station.take(("ask", "more", 0, number, 3))
                self.agree(station.take((kind, "more", 0, 3, 3)), told)

    def test_waiting_offers_of_other_tasks_are_kept(self):
        station = middle()
        station.take(("ask", "run", 2, 9, 5))
        station.take(("ask", "run", 1, 1, 5))
        self.agree(station.take(("done", "run", 2, 9, 5)), [("yes", "run", 1, 1, 9)])

    def test_behind_it_the_station_speaks(self):
        for kind in ("done", "off"):
            station = middle()
            station.take(("ask", "run", 1, 1, 5))
            self.agree(station.take((kind, "run", 1, 1, 5)), [("ask", "run", 4, 1, 0), ("ask", "run", 6, 1, 1)])
            self.agree(station.take((kind, "run", 1, 1, 5)), [])


class TickTest(Case):
    def test_a_held_offer_is_answered_again_and_nothing_else_is_done(self):
        station = middle()
        station.order(7)
        station.take(("ask", "more", 1, 1, 5))
        before = inside(station)
        for _ in range(2):
            self.agree(station.tick(), [("yes", "more", 1, 1, 9)])
        self.assertEqual(inside(station), before)

    def test_marks_stay_while_an_offer_is_held(self):
        station = middle()
        station.tick()
        station.take(("ask", "run", 1, 1, 5))
        station.tick()
        self.agree(station.take(("off", "run", 1, 1, 5)), [])
        self.agree(station.tick(), [("ask", "run", 4, 1, 0), ("ask", "run", 6, 1, 1)])

    def test_own_runs(self):
        station = Station(0, [(0, None, False, 2), (1, None, False, 1)])
        self.agree([station.tick(), station.log()], [[], [("run", 0)]])
        self.agree(station.knows(), (0, None, ((0, 1, 0), (1, 1, 0))))
        station.tick()
        station.tick()
        self.agree(station.tick(), [])
        self.agree([station.log(), station.decided()], [[("run", 0), ("run", 0), ("run", 1)]] * 2)

    def test_own_runs_are_open_ones(self):
        station = Station(0, [(0, None, True, 1), (1, None, True, 2)])
        station.tick()
        self.agree(station.log(), [("run", 1)])

    def test_a_more_of_the_least_own_task_that_is_wanted_and_addable(self):
        station = Station(0, [(0, None, True, 0), (1, None, True, 0), (2, None, False, 0)], last=0)
        for task in (0, 1, 2, 2):
            station.order(task)
        self.agree(station.addable(), [1, 2])
        self.agree(station.tick(), [])
        # The more comes first, and then it can be run.
        self.agree(station.log(), [("more", 1), ("run", 1)])
        self.agree(station.knows(), (1, None, ((0, 0, 1), (1, 0, 0), (2, 0, 2))))
        self.agree(station.decided(), station.log())
        station.tick()
        self.agree(station.log()[2:], [("more", 0), ("run", 0)])

    def test_one_more_a_tick(self):
        station = Station(0, [(0, None, False, 0)])
        for _ in range(3):
            station.order(0)
        station.tick()
        self.agree([station.wanted(0), station.left(0), station.log()], [2, 0, [("more", 0), ("run", 0)]])

    def test_own_tasks_come_ahead_of_speaking(self):
        station = Station(5, [(0, 1, True, 1), (1, None, False, 1)], last=0)
        self.agree(station.tick(), [("ask", "run", 0, 1, 1)])
        self.agree(station.last, 1)

    def test_shared_tasks_are_not_made_by_a_tick(self):
        station = high()
        station.order(0)
        station.tick()
        self.agree([station.log(), station.wanted(0), station.left(0)], [[], 1, 3])

    def test_a_tick_takes_a_waiting_offer(self):
        station = low(left=1, last=0, minds=True, others=[(1, None, False, 1)])
        self.agree(station.take(("ask", "run", 0, 1, 3)), [])
        self.agree(station.tick(), [("yes", "run", 0, 1, 8)])
        self.agree([station.held, station.log()], [("run", 0, 1), [("run", 1)]])

    def test_new_lists(self):
        station = middle()
        station.take(("ask", "more", 1, 1, 5))
        self.new_each_time(station.tick)


class FallTest(Case):
    def test_waiting_offers_are_lost(self):
        station = middle()
        station.take(("ask", "run", 1, 1, 5))
        station.take(("ask", "run", 2, 1, 5))
        self.agree(station.fall(), None)
        self.agree(station.held, ("run", 1, 1))
        self.agree(station.take(("off", "run", 1, 1, 5)), [("ask", "run", 4, 1, 0), ("ask", "run", 6, 1, 1)])

    def test_marks_are_lost(self):
        station = middle()
        station.tick()
        station.fall()
        station.take(("ask", "run", 1, 1, 5))
        self.agree(station.take(("off", "run", 1, 1, 5)), [("ask", "run", 4, 1, 0), ("ask", "run", 6, 1, 1)])

    def test_all_else_stays(self):
        station = middle()
        station.order(4)
        station.take(("yes", "run", 4, 1, 5))
        station.take(("ask", "run", 1, 6, 5))
        station.take(("done", "run", 1, 6, 5))
        before = [station.knows(), station.log(), station.decided()]
        station.fall()
        self.agree([station.knows(), station.log(), station.decided()], before)
        self.agree(station.take(("ask", "run", 1, 6, 5)), [])
        self.agree(station.take(("yes", "run", 4, 1, 5)), [("done", "run", 4, 1, 0)])
        self.agree(station.take(("yes", "run", 4, 2, 5))[0], ("done", "run", 4, 2, 0))


class ForgetTest(Case):
    def test_forget(self):
        station = Station(5, [(0, None, True, 1)], last=0)
        self.agree([station.forget(), station.last, station.knows()], [None, None, (None, None, ((0, 1, 0),))])
        self.agree(station.forget(), None)
        station.tick()
        self.agree(station.log(), [("run", 0)])

    def test_a_held_offer_stays(self):
        station = low(last=0)
        station.take(("ask", "run", 0, 1, 3))
        station.forget()
        self.agree(station.knows(), (None, ("run", 0, 1), ((0, 3, 0),)))
        station.take(("done", "run", 0, 1, 3))
        self.agree(station.last, 0)


class ToldTest(Case):
    def test_told_lists_are_new_and_stay_as_they_were_told(self):
        station = Station(0, [(0, None, False, 3), (1, 5, False, 2)])
        station.tick()
        for call in (station.log, station.decided):
            told = call()
            kept = list(told)
            station.tick()
            self.assertEqual(told, kept)
            self.new_each_time(call)

    def test_knows(self):
        station = middle()
        station.order(4)
        station.take(("ask", "run", 3, 2, 5))
        self.agree(station.knows(), (None, ("run", 3, 2), (
            (1, 2, 0), (2, 2, 0), (3, 2, 0), (4, 2, 1), (6, 2, 0), (7, 2, 0))))

    def test_equal_letters_make_equal_lists(self):
        one, other = middle(), middle()
        for letter in (("ask", "run", 1, 1, 5), ("off", "run", 1, 1, 5), ("yes", "run", 4, 1, 5)):
            self.agree(one.take(letter), other.take(letter))


class Model:
    """The words of points [51] to [58] once more, as plainly as can be, to be compared with a station."""

    def __init__(self, number, rows, last):
        self.number, self.last, self.held = number, last, None
        self.rows = {task: {"far": far, "minds": minds, "left": left, "wanted": 0, "present": 1, "marked": False,
                            "went": None, "settled": 0, "waiting": None} for task, far, minds, left in rows}
        self.logged, self.ruled = [], []

    def work(self):
        return sum(row["left"] for row in self.rows.values())

    def slack(self, task):
        return self.work() + 1 - 2 * self.rows[task]["left"] - (1 if self.last == task else 0)

    def is_open(self, task):
        hasty = [one for one, row in self.rows.items()
                 if row["minds"] and self.slack(one) == 0 and one != self.last]
        row = self.rows[task]
        if hasty:
            return task == hasty[0]
        return row["left"] > 0 and not (row["minds"] and task == self.last)

    def can_add(self, task):
        return not self.rows[task]["minds"] or self.slack(task) >= 1

    def make(self, sort, task, ruled):
        if sort == "run":
            self.rows[task]["left"] -= 1
            self.last = task
        else:
            self.rows[task]["left"] += 1
        self.logged.append((sort, task))
        if ruled:
            self.ruled.append((sort, task))
            self.rows[task]["wanted"] -= sort == "more"

    def yes(self):
        return [("yes",) + self.held + (self.rows[self.held[1]]["far"],)]

    def speak(self):
        if self.held:
            return []
        best = None
        for task, row in self.rows.items():
            if row["waiting"]:
                number, sort = row["waiting"]
                if self.is_open(task) if sort == "run" else self.can_add(task):
                    if best is None or row["far"] > self.rows[best]["far"]:
                        best = task
        if best is not None:
            number, sort = self.rows[best]["waiting"]
            self.rows[best]["waiting"] = None
            self.held = (sort, best, number)
            return self.yes()
        sent = []
        for task, row in self.rows.items():
            if row["far"] is not None and row["far"] < self.number and not row["marked"]:
                if self.is_open(task):
                    sent.append(("ask", "run", task, row["present"], row["far"]))
                    row["marked"] = True
                elif row["wanted"] > 0 and self.can_add(task):
                    sent.append(("ask", "more", task, row["present"], row["far"]))
                    row["marked"] = True
        return sent

    def take(self, letter):
        kind, sort, task, number, _ = letter
        row = self.rows[task]
        if kind == "ask":
            if number <= row["settled"]:
                return []
            if self.held and self.held[1] == task and self.held[2] == number:
                return self.yes()
            row["waiting"] = (number, sort)
            return self.speak()
        if kind == "yes":
            if number == row["present"] - 1:
                return [(row["went"], sort, task, number, row["far"])]
            if number != row["present"]:
                return []
            if self.held:
                row["went"] = "off"
            elif sort == "run":
                row["went"] = "done" if self.is_open(task) else "off"
            else:
                row["went"] = "done" if row["wanted"] > 0 and self.can_add(task) else "off"
            if row["went"] == "done":
                self.make(sort, task, True)
            row["present"], row["marked"] = number + 1, False
            return [(row["went"], sort, task, number, row["far"])] + self.speak()
        if not self.held or self.held[1:] != (task, number):
            return []
        held, self.held = self.held, None
        if kind == "done":
            self.make(held[0], task, False)
        row["settled"] = number
        if row["waiting"] and row["waiting"][0] <= number:
            row["waiting"] = None
        return self.speak()

    def tick(self):
        if self.held:
            return self.yes()
        own = [task for task, row in self.rows.items() if row["far"] is None]
        for task in own:
            if self.rows[task]["wanted"] > 0 and self.can_add(task):
                self.make("more", task, True)
                break
        for task in own:
            if self.is_open(task):
                self.make("run", task, True)
                break
        for row in self.rows.values():
            row["marked"] = False
        return self.speak()

    def fall(self):
        for row in self.rows.values():
            row["marked"], row["waiting"] = False, None

    def knows(self):
        return (self.last, self.held, tuple((task, row["left"], row["wanted"]) for task, row in self.rows.items()))


class ModelTest(Case):
    def random_rows(self, rng, number):
        tasks = sorted(rng.sample(range(100), rng.randint(1, 6)))
        fars = [far for far in range(0, 24, rng.randint(2, 9)) if far != number]
        return [(task, rng.choice([None] + fars * 2), rng.random() < 0.6, rng.randint(0, 3)) for task in tasks]

    def random_letter(self, rng, station, rows):
        shared = [row for row in rows if row[1] is not None]
        if not shared:
            return None
        task, far, _, _ = rng.choice(shared)
        kind = "yes" if far < station.number else rng.choice(["ask", "ask", "done", "off"])
        number = rng.randint(1, 6)
        if station.held and rng.random() < 0.5:
            task, number = station.held[1:]
            kind = rng.choice(["ask", "done", "off"])
        return (kind, rng.choice(["run", "more"]), task, number, station.number)

    def play(self, rng, letters):
        number = rng.randint(0, 23)
        rows = self.random_rows(rng, number)
        last = rng.choice([None] + [row[0] for row in rows])
        station, model = Station(number, rows, last=last), Model(number, rows, last)
        for _ in range(letters):
            deed = rng.random()
            letter = self.random_letter(rng, station, rows)
            if letter and deed < 0.7:
                self.agree(station.take(letter), model.take(letter))
            elif deed < 0.85:
                self.agree(station.tick(), model.tick())
            elif deed < 0.88:
                station.fall()
                model.fall()
            elif deed < 0.9:
                station.forget()
                model.last = None
            else:
                task, far = rng.choice(rows)[:2]
                if far is None or far < number:
                    station.order(task)
                    model.rows[task]["wanted"] += 1
            self.agree(station.knows(), model.knows())
            self.agree([station.last, station.held, station.number], [model.last, model.held, number])
            self.agree([station.log(), station.decided()], [model.logged, model.ruled])

    def test_a_station_does_what_the_words_say(self):
        rng = random.Random(53)
        for _ in range(400):
            self.play(rng, 60)


class WithoutTasksTest(Case):
    def test_a_station_without_rows(self):
        station = Station(0, [])
        self.agree([station.open_tasks(), station.addable(), station.tick(), station.log(), station.knows()],
                   [[], [], [], [], (None, None, ())])
        self.agree([station.fall(), station.forget()], [None, None])
        self.refuses(InvalidTask, {"given": 0}, station.order, 0)
        self.refuses(InvalidLetter, {"given": ("ask", "run", 0, 1, 0)}, station.take, ("ask", "run", 0, 1, 0))
        self.agree(station_of(State(Net(1, []), []), 0).knows(), (None, None, ()))


if __name__ == "__main__":
    unittest.main()
