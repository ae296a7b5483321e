"""Points [7], [71] and [72]: which lasts are true, and which are sound."""

import random
import unittest

from otherfirst.errors import InvalidLasts
from otherfirst.lasts import circle_of, is_true, looks, why_false
from otherfirst.nets import Net
from otherfirst.rings import rings
from otherfirst.states import State
from tests import judge
from tests.helpers import EMPTY, PAIR, ROW, TRIANGLE, Case, any_values, random_lasts, random_net

NET = Net(3, [((0, True), (1, True)), ((1, True), (2, False)), ((0, True), (2, True)), ((2, True),)])
SQUARE = Net(4, [((0, True), (1, True)), ((0, True), (1, True)), ((2, True), (3, True)), ((2, True), (3, True))])
NO_LASTS = [None, True, False, 0, "", {}, [], [None, None], [None] * 4, [1, None, None], [False, None, None],
            [None, None, True], [None, 4, None], [None, -1, None], [[0], None, None], NET, ["0", None, None]]


def small_nets():
    rng = random.Random(41)
    return [PAIR, TRIANGLE, NET, EMPTY] + [random_net(rng) for _ in range(60)]


def circle_by_words(net, lasts):
    """The circle with the least of all nodes in circles: who walks from look to look comes back."""
    for start in range(net.nodes):
        circle, node = [], start
        while lasts[node] is not None and len(circle) < net.nodes:
            circle.append((node, lasts[node]))
            others = [end for end in net.ends(lasts[node]) if end != node]
            if others == []:
                break
            node = others[0]
            if node == start:
                tasks = [task for _, task in circle]
                if len(set(tasks)) == len(tasks):
                    return circle
                break
    return None


class LooksTest(Case):
    def test_looks(self):
        self.agree([looks(NET, [0, 1, 3]), looks(NET, (None, 1, 1))], [[1, 2, 2], [None, 2, 1]])
        self.agree(looks(net=NET, lasts=[2, 0, 2]), [2, 0, 0])
        self.agree([looks(EMPTY, [None, None]), looks(Net(1, [((0, False),)]), [0])], [[None, None], [0]])
        self.new_each_time(lambda: looks(NET, [0, 1, 3]))


class RefusalTest(Case):
    def test_invalid_lasts(self):
        for call in (looks, circle_of, why_false, is_true):
            self.refuses_all(InvalidLasts, NO_LASTS, lambda lasts: call(NET, lasts))
            self.refuses_all(InvalidLasts, any_values()[:-1], lambda lasts: call(Net(5, []), lasts))


class TrueTest(Case):
    def test_bare(self):
        self.agree([why_false(NET, [0, 1, None]), is_true(NET, [0, 1, None])], [("bare", 1), False])
        self.agree(why_false(ROW, [None, 0, None]), ("bare", 1))
        self.agree(why_false(ROW, [0, None, 1]), ("bare", 0))

    def test_circle(self):
        self.agree(why_false(net=NET, lasts=(0, 1, 2)), ("circle", [(0, 0), (1, 1), (2, 2)]))
        self.agree(why_false(PAIR, [1, 0]), ("circle", [(0, 1), (1, 0)]))
        self.agree([is_true(net=NET, lasts=[0, 1, 2]), is_true(PAIR, [0, 1])], [False, False])

    def test_bare_comes_ahead_of_a_circle(self):
        lasts = [0, 1, None, 2]
        self.agree([why_false(SQUARE, lasts), circle_of(SQUARE, lasts)], [("bare", 3), [(0, 0), (1, 1)]])

    def test_true(self):
        for net, lasts in [(NET, [0, 1, 3]), (NET, [None] * 3), (PAIR, [0, 0]), (ROW, [0, 0, 2]), (ROW, [None, 1, 1]),
                           (ROW, [0, 1, 1]), (EMPTY, [None, None]), (ROW, [None, None, 2])]:
            self.agree([is_true(net, lasts), why_false(net, lasts), circle_of(net, lasts)], [True, None, None])

    def test_circle_of(self):
        self.agree(circle_of(net=NET, lasts=[2, 0, 1]), [(0, 2), (2, 1), (1, 0)])
        self.agree(circle_of(SQUARE, [1, 0, 2, 3]), [(0, 1), (1, 0)])
        self.agree(circle_of(SQUARE, [1, 1, 2, 3]), [(2, 2), (3, 3)])
        self.agree(circle_of(SQUARE, [1, 1, 2, 2]), None)
        # One node looks into the circle and is not in it.
        net = Net(3, [((0, True), (1, True)), ((1, True), (2, True)), ((1, True), (2, True))])
        self.agree(circle_of(net, [0, 1, 2]), [(1, 1), (2, 2)])
        self.new_each_time(lambda: circle_of(NET, [2, 0, 1]))

    def test_minds_do_not_matter(self):
        net = Net(2, [((0, False), (1, False)), ((0, False), (1, False))])
        self.agree(circle_of(net, [0, 1]), [(0, 0), (1, 1)])

    def test_a_search_of_all_rows_of_runs_finds_the_same(self):
        for net in small_nets():
            reached = judge.shortest_pasts(net)
            for lasts in judge.all_lasts(net):
                self.agree(is_true(net, lasts), lasts in reached)
                self.agree(is_true(net, list(lasts)), why_false(net, lasts) is None)

    def test_all_lasts_of_small_nets(self):
        for net in small_nets():
            for lasts in judge.all_lasts(net):
                seen = looks(net, lasts)
                bare = [node for node in range(net.nodes) if seen[node] is not None and lasts[seen[node]] is None]
                circle = circle_by_words(net, lasts)
                self.agree(circle_of(net, lasts), circle)
                if bare:
                    self.agree(why_false(net, lasts), ("bare", bare[0]))
                else:
                    self.agree(why_false(net, lasts), None if circle is None else ("circle", circle))


class SoundTest(Case):
    def test_true_lasts_are_sound_and_sound_lasts_have_no_ring(self):
        rng = random.Random(42)
        for net in small_nets():
            for lasts in judge.all_lasts(net):
                if is_true(net, lasts):
                    self.agree(circle_of(net, lasts), None)
                if circle_of(net, lasts) is None:
                    load = [rng.randint(0, 1) for _ in range(len(net))]
                    self.agree(rings(State(net, load, lasts)), [])

    def test_sound_lasts_stay_sound(self):
        rng = random.Random(43)
        for net in small_nets():
            lasts = random_lasts(rng, net, none=0.2)
            if circle_of(net, lasts) is None:
                for task in judge.moves(net, (1,) * len(net), lasts):
                    behind = judge.behind(net, (1,) * len(net), lasts, task)[1]
                    self.agree(circle_of(net, behind), None)
                for node in range(net.nodes):
                    forgotten = lasts[:node] + [None] + lasts[node + 1:]
                    self.agree(circle_of(net, forgotten), None)


if __name__ == "__main__":
    unittest.main()
