"""Points [132], [134] and [135]: stories, and forests."""

import itertools
import random
import unittest

from otherfirst.decide import can_be_done
from otherfirst.errors import InvalidSchedule, NotForest, TooMany
from otherfirst.nets import Net
from otherfirst.rows import fit
from otherfirst.schedules import is_complete
from otherfirst.states import State
from otherfirst.stories import count_stories, forest_ring, is_forest_ring, stories, story_of
from tests import judge
from tests.helpers import EMPTY, LONG, PAIR, ROW, TRIANGLE, Case, all_states, any_values, no_schedules_of
from tests.helpers import random_forest, random_lasts, random_net, random_states, small_nets

CHAIN = Net(3, [((0, True), (1, True)), ((1, True), (2, True)), ((2, True),)])
# Both nodes have both tasks.
TWIN = Net(2, [((0, True), (1, True)), ((0, False), (1, True))])
FREE = Net(1, [((0, False),)] * 15)


def searched(state):
    """The stories of all complete schedules, ascending."""
    search = judge.Search(state.net)
    return sorted({judge.story(state.net, order) for order in search.all(state.load, state.lasts)})


def neighbours(net, order):
    """The orders got by an exchange of two neighbours without a common node."""
    for at in range(1, len(order)):
        if not set(net.ends(order[at - 1])) & set(net.ends(order[at])):
            yield order[:at - 1] + (order[at], order[at - 1]) + order[at + 1:]


class StoryOfTest(Case):
    def test_by_words(self):
        rng = random.Random(1)
        for _ in range(300):
            net = random_net(rng)
            order = [rng.randrange(len(net)) for _ in range(rng.randint(0, 8))] if len(net) else []
            self.agree(story_of(net, order), judge.story(net, order))
            self.agree(story_of(net, tuple(order)), judge.story(net, order))

    def test_story_of(self):
        self.agree(story_of(net=CHAIN, schedule=[2, 1, 0]), ((0,), (1, 0), (2, 1)))
        self.agree([story_of(CHAIN, []), story_of(EMPTY, ())], [((), (), ()), ((), ())])
        # It need not be one that can be run.
        self.agree(story_of(CHAIN, [2, 2]), ((), (), (2, 2)))
        self.agree(story_of(FREE, [0] * 400), ((0,) * 400,))
        self.unchanged(story_of, CHAIN, [2, 1, 0])

    def test_exchanges_of_neighbours_lead_from_each_to_each(self):
        nets = [CHAIN, TWIN, Net(4, [((0, True), (1, True)), ((2, True), (3, True)), ((1, True),)])]
        for net in nets:
            for length in range(5):
                told = {}
                for order in itertools.product(range(len(net)), repeat=length):
                    told.setdefault(story_of(net, order), set()).add(order)
                for orders in told.values():
                    self.assertEqual(self.closure(net, min(orders)), orders)

    def closure(self, net, order):
        found = {order}
        border = [order]
        while border:
            for other in neighbours(net, border.pop()):
                if other not in found:
                    found.add(other)
                    border.append(other)
        return found

    def test_refusals(self):
        self.refuses_all(InvalidSchedule, no_schedules_of(CHAIN), lambda schedule: story_of(CHAIN, schedule))


class StoriesTest(Case):
    def test_a_search_of_all_complete_schedules_agrees(self):
        many = 0
        for state in random_states(2, 300, most_left=2) + all_states(TWIN, 2) + all_states(CHAIN, 1)[::3]:
            if state.total() > 6:
                continue
            try:
                found = stories(state)
            except TooMany as error:
                self.assertGreater(error.count, 200)
                continue
            self.agree(found, searched(state))
            many += len(found)
        self.assertGreater(many, 500)

    def test_with_rings_of_nodes_not_all_choices_fit(self):
        # Each node has two own rows, which makes eight choices; two of them go round.
        state = State(TRIANGLE, [1, 1, 1])
        self.agree(stories(state), searched(state))
        self.assertEqual(len(stories(state)), 6)
        self.agree(stories(State(TRIANGLE, [1, 1, 1], [0, 1, 2])), [])

    def test_stories(self):
        self.agree(stories(state=State(CHAIN, [1, 1, 1], [None, 1, None])), [((0,), (0, 1), (1, 2)), ((0,), (0, 1), (2, 1))])
        self.agree(stories(State(TWIN, [1, 1])), [((0, 1), (0, 1)), ((1, 0), (1, 0))])
        self.agree([stories(State(EMPTY, [])), stories(State(CHAIN, [0, 0, 0], [0, 1, 2]))], [[((), ())], [((), (), ())]])
        self.agree([stories(State(CHAIN, [2, 0, 0])), stories(State(CHAIN, [0, 0, 1], [None, None, 2]))], [[], []])
        self.new_each_time(lambda: stories(State(CHAIN, [1, 1, 1])))

    def test_each_story_is_that_of_a_complete_schedule(self):
        many = 0
        for state in random_states(3, 200, most_left=3):
            try:
                found = stories(state)
            except TooMany:
                continue
            self.agree(found, sorted(found))
            self.agree(found != [], can_be_done(state))
            for told in found:
                self.assertTrue(is_complete(state, fit(state.net, told)))
                many += 1
        self.assertGreater(many, 300)

    def test_at_most_400_runs(self):
        none = [0] * 14
        self.agree(stories(State(FREE, [400] + none)), [((0,) * 400,)])
        self.refuses(TooMany, {"count": 401}, stories, State(FREE, [401] + none))
        self.refuses(TooMany, {"count": 401}, stories, State(CHAIN, [401, 0, 0]))
        self.refuses(TooMany, {"count": 3 * LONG}, stories, State(CHAIN, [LONG] * 3))
        # The runs left of all nodes together count.
        self.refuses(TooMany, {"count": 402}, stories, State(Net(2, [((0, True),), ((1, True),)]), [201, 201]))

    def test_products_at_most_20000(self):
        # 160 * 125 is 20000, 3 * 59 * 113 is 20001.
        net = Net(2, [((0, True),), ((0, True),), ((0, True),), ((1, True),), ((1, True),), ((1, True),)])
        self.agree(stories(State(net, [159, 124, 0, 1, 0, 0])), [])
        self.refuses(TooMany, {"count": 20001}, stories, State(net, [2, 58, 112, 1, 0, 0]))
        self.refuses(TooMany, {"count": 20001}, stories, State(net, [1, 0, 0, 2, 58, 112]))
        # The first node that has too great a product counts, ahead of all choices, and behind the number of runs.
        self.refuses(TooMany, {"count": 101 * 201}, stories, State(net, [100, 200, 0, 2, 28, 58]))
        self.refuses(TooMany, {"count": 101 * 201}, stories, State(net, [5, 0, 0, 200, 100, 0]))
        self.refuses(TooMany, {"count": 401}, stories, State(net, [101, 200, 0, 100, 0, 0]))

    def test_at_most_200_choices(self):
        none = [0] * 13
        self.agree(len(stories(State(FREE, [199, 1] + none))), 200)
        self.refuses(TooMany, {"count": 201}, stories, State(FREE, [200, 1] + none))
        two = Net(2, [((0, False),), ((0, False),), ((1, False),), ((1, False),)])
        self.agree(len(stories(State(two, [9, 1, 19, 1]))), 200)
        self.refuses(TooMany, {"count": 210}, stories, State(two, [9, 1, 20, 1]))
        self.refuses(TooMany, {"count": 201 * 2}, stories, State(two, [1, 1, 200, 1]))
        # Choices count, whether or not they fit.
        crossed = Net(2, [((0, False), (1, False)), ((0, False), (1, False))])
        self.agree(len(stories(State(crossed, [2, 2]))), 6)
        self.agree(len(stories(State(crossed, [1, 13]))), 14)
        self.refuses(TooMany, {"count": 15 * 15}, stories, State(crossed, [1, 14]))
        # A node without an own row leaves no choice, however many the others have.
        block = Net(2, [((0, False),), ((0, False),), ((1, True),)])
        self.agree(stories(State(block, [100, 100, 2])), [])
        self.agree(len(stories(State(block, [199, 1, 1]))), 200)

    def test_four_hundred_runs_and_two_hundred_choices(self):
        # Two nodes that have to go the same one of fourteen ways, and long rows that go no other way.
        tasks = [((0, False), (1, False)), ((0, False), (1, False)), ((2, True), (3, True)), ((2, True),), ((3, True),)]
        state = State(Net(4, tasks), [1, 13, 128, 129, 127])
        found = stories(state)
        self.assertEqual(len(found), 14)
        self.agree(found, [(row, row, (3, 2) * 128 + (3,), (2, 4) * 127 + (2,)) for row in sorted({row for row, *_ in found})])


class CountStoriesTest(Case):
    def test_a_search_agrees(self):
        rng = random.Random(4)
        most = 0
        for _ in range(400):
            net = random_forest(rng, own=3)
            state = State(net, [rng.randint(0, 2) for _ in range(len(net))], random_lasts(rng, net))
            if state.total() < 7:
                wanted = len(searched(state))
                self.agree(count_stories(state), wanted)
                most = max(most, wanted)
        self.assertGreater(most, 20)

    def test_count_stories(self):
        self.agree([count_stories(state=State(CHAIN, [1, 1, 1])), count_stories(State(EMPTY, []))], [4, 1])
        self.agree(count_stories(State(CHAIN, [2, 0, 0])), 0)
        # Far more than could be listed, of more runs than could be run.
        self.agree(count_stories(State(FREE, [1] * 14 + [0])), 87178291200)
        many = Net(24, [((node, False),) for node in range(24) for _ in range(4)])
        self.agree(count_stories(State(many, [1] * 96)), 24 ** 24)
        self.agree(count_stories(State(FREE, [19999] + [0] * 14)), 1)

    def test_refusals(self):
        self.refuses(TooMany, {"count": 20001}, count_stories, State(FREE, [20000] + [0] * 14))
        self.refuses(TooMany, {"count": LONG + 1}, count_stories, State(CHAIN, [0, 0, LONG]))
        self.refuses(TooMany, {"count": 2 * LONG}, count_stories, State(CHAIN, [1, LONG - 1, LONG]))
        two = Net(2, [((0, True),), ((1, True),)])
        self.refuses(TooMany, {"count": 20002}, count_stories, State(two, [20001, 30000]))
        self.refuses(TooMany, {"count": 30001}, count_stories, State(two, [2, 30000]))
        # A ring of nodes counts first.
        for net in (TWIN, TRIANGLE, PAIR):
            self.refuses(NotForest, {"ring": forest_ring(net)}, count_stories, State(net, [LONG] * len(net)))
        self.new_each_time(lambda: self.ring_of(TWIN))

    def ring_of(self, net):
        with self.assertRaises(NotForest) as caught:
            count_stories(State(net, [0] * len(net)))
        return caught.exception.ring


class ForestTest(Case):
    def test_a_search_of_all_rings_agrees(self):
        seen = {True: 0, False: 0}
        for net in small_nets(5, 200, 4, 5):
            rings = judge.rings_of_nodes(net)
            found = forest_ring(net)
            if rings:
                self.agree(type(found), list)
                self.assertIn(found, rings)
                self.agree(forest_ring(Net(net.nodes, list(net.tasks))), found)
            else:
                self.agree(found, None)
            seen[rings == []] += 1
            for ring in rings:
                self.agree([is_forest_ring(net, ring), is_forest_ring(net, tuple(ring))], [True, True])
        self.assertGreater(min(seen.values()), 50)

    def test_forest_ring(self):
        self.agree([forest_ring(net=net) for net in (ROW, CHAIN, EMPTY, FREE, Net(1, []))], [None] * 5)
        self.assertIn(forest_ring(TWIN), judge.rings_of_nodes(TWIN))
        self.new_each_time(lambda: forest_ring(TRIANGLE))
        # A hundred tasks, of which the last one alone makes a ring, the longest that can be.
        row = [((node, True), (node + 1, False)) for node in range(23)]
        great = Net(24, row + [((3, True),)] * 76 + [((0, False), (23, False))])
        ring = forest_ring(great)
        self.assertEqual(len(ring), 24)
        self.agree(is_forest_ring(great, ring), True)

    def test_all_small_lists(self):
        right = 0
        for net in (TWIN, TRIANGLE, Net(3, list(TRIANGLE.tasks) + [((0, True),), ((1, True), (2, False))])):
            rings = judge.rings_of_nodes(net)
            items = list(itertools.product(range(net.nodes), range(len(net))))
            for length in range(5 if len(items) < 10 else 4):
                for value in itertools.product(items, repeat=length):
                    wanted = list(value) in rings
                    self.agree(is_forest_ring(net, list(value)), wanted)
                    right += wanted
        self.assertGreater(right, 20)

    def test_wrong_ones(self):
        self.agree(is_forest_ring(net=TWIN, value=[(0, 0), (1, 1)]), True)
        for value in [[[0, 0], (1, 1)], [(0, 0), [1, 1]], [(0, False), (1, 1)], [(False, 0), (1, 1)], [(0, 0), (True, 1)],
                      [(0, 0), (1, True)], [(0, 0)], [], [(0, 0), (1, 0)], [(0, 0), (0, 1)], [(0, 0), (1, 2)],
                      [(0, 0), (2, 1)], [(0, 0), (1, -1)], [(-1, 0), (1, 1)], [(0, 0), (1, 1), (0, 0)],
                      [(0, 0), (1, 1), (0, 0), (1, 1)], [(0, 0, 0), (1, 1, 1)], [(0, 0), (1, 1.0)], [(0, 0), (1, None)],
                      [(0, LONG), (1, 1)], {}, None, "", [0, 1], [(0, 0), None]]:
            self.agree(is_forest_ring(TWIN, value), False)
        # Different tasks, but nodes that come twice.
        four = Net(2, [((0, True), (1, True))] * 4)
        self.agree(is_forest_ring(four, [(0, 0), (1, 1), (0, 2), (1, 3)]), False)
        self.agree(is_forest_ring(four, [(0, 3), (1, 1)]), True)
        own = Net(2, [((0, True), (1, True)), ((1, True),)])
        self.agree([is_forest_ring(own, [(0, 0), (1, 1)]), is_forest_ring(own, [(1, 1), (0, 0)])], [False, False])

    def test_any_value(self):
        for value in any_values():
            self.agree(is_forest_ring(TWIN, value), False)
            self.agree(is_forest_ring(TWIN, [(0, 0), value]), False)
            self.agree(is_forest_ring(TWIN, [(0, 0), (1, value)]), repr(value) == "1")


if __name__ == "__main__":
    unittest.main()
