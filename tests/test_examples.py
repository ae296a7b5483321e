"""The examples under the headings of the interface, as they stand there."""

import unittest

from tests.helpers import Case


class StageOneExamples(Case):
    def test_nets(self):
        from otherfirst.errors import NotAnEnd
        from otherfirst.nets import Net, is_lasts, is_load, read_net
        net = Net(3, [((0, True), (1, True)), ((1, True), (2, False)), ((2, True),)])
        self.agree([net.nodes, len(net), net.tasks[2], net.ends(1), net.at(1)],
                   [3, 3, ((2, True),), (1, 2), [0, 1]])
        self.agree([net.far(1, 2), net.far(2, 2), net.minds(1, 1), net.minds(1, 2)], [1, None, True, False])
        self.agree([is_load(net, [2, 1, 0]), is_load(net, [2, True, 0]),
                    is_lasts(net, [None, 0, 2]), is_lasts(net, [1, 0, 2])], [True, False, True, False])
        self.agree([net.line(), read_net("3: 0!1! 1!2? 2!") == net, read_net("1:").nodes],
                   ['3: 0!1! 1!2? 2!', True, 1])
        self.refuses(NotAnEnd, {"task": 0, "node": 2}, net.far, 0, 2)

    def test_states(self):
        from otherfirst.errors import NotMinded
        from otherfirst.nets import Net
        from otherfirst.states import State, fine, read_state, slack, slacks, tight, too_often, urgent, work
        net = Net(3, [((0, True), (1, True)), ((1, True), (2, False)), ((2, True),)])
        state = State(net, [2, 1, 0], [None, 0, 2])
        self.agree([state.total(), state.line(), work(state, 1), slack(state, 1, 1)], [3, '2 1 0 / - 0 2', 3, 2])
        self.agree(slacks(state), [(0, 0, -1), (1, 0, -1), (1, 1, 2), (2, 2, 1)])
        self.agree([fine(state), too_often(state)], [False, [(0, 0), (1, 0)]])
        other = read_state(net, "1 1 0 / - - -")
        self.agree([tight(other, 0), urgent(other, 0), tight(other, 1), other.lasts], [0, 0, None, (None, None, None)])
        rest = State(net, [0, 0, 0], lasts=[0, 0, None])
        self.agree([tight(rest, 0), urgent(rest, 0), fine(rest)], [0, None, True])
        self.refuses(NotMinded, {"task": 1, "node": 2}, slack, state, 1, 2)

    def test_runs(self):
        from otherfirst.errors import Barred
        from otherfirst.nets import Net
        from otherfirst.runs import bars, legal, open_tasks, run, safe, spoils
        from otherfirst.states import State
        net = Net(3, [((0, True), (1, True)), ((1, True), (2, False)), ((2, True),)])
        state = State(net, [1, 2, 1])
        self.agree([legal(state), safe(state), spoils(state)], [[0, 1, 2], [1, 2], [(0, 1, 1)]])
        self.agree([open_tasks(state, 0), open_tasks(state, 1), open_tasks(state, 2)], [[0], [1], [1, 2]])
        behind = run(state, 1)
        self.agree([behind.load, behind.lasts, bars(behind, 1), legal(behind)],
                   [(1, 1, 1), (None, 1, 1), [1], [0, 2]])
        self.refuses(Barred, {"nodes": [1]}, run, behind, 1)

    def test_schedules(self):
        from otherfirst.errors import Stopped
        from otherfirst.nets import Net
        from otherfirst.schedules import is_complete, is_schedule, own_row, run_all, wastes
        from otherfirst.states import State
        net = Net(3, [((0, True), (1, True)), ((1, True), (2, False)), ((2, True),)])
        state = State(net, [1, 2, 1])
        self.agree([run_all(state, [2, 1, 0]).load, is_schedule(state, [2, 1, 0]), is_complete(state, (1, 0, 1, 2))],
                   [(0, 1, 0), True, True])
        self.agree([own_row(net, [1, 0, 1, 2], 2), wastes(state, [1, 0, 1, 2], 1, 1),
                    wastes(state, [1, 0, 1, 2], 1, 0)], [[1, 1, 2], [], [0]])
        self.refuses(Stopped, {"at": 3, "reached": State(net, [0, 1, 0], [0, 1, 1])}, run_all, state, [2, 0, 1, 1])

    def test_rings(self):
        from otherfirst.nets import Net
        from otherfirst.rings import is_ring, rings
        from otherfirst.states import State
        net = Net(3, [((0, True), (1, True)), ((1, True), (2, True)), ((0, True), (2, True))])
        state = State(net, [1, 1, 1], [0, 1, 2])
        self.agree([rings(state), rings(State(net, [1, 1, 2], [0, 1, 2]))], [[[(0, 0), (1, 1), (2, 2)]], []])
        self.agree([is_ring(state, [(1, 1), (2, 2), (0, 0)]), is_ring(state, [(0, 0), (2, 2), (1, 1)])], [True, False])


class StageTwoExamples(Case):
    def test_decide(self):
        from otherfirst.decide import can_be_done, defect, is_defect, keeping, schedule_of
        from otherfirst.errors import Impossible
        from otherfirst.nets import Net
        from otherfirst.states import State
        net = Net(4, [((0, True), (1, True)), ((1, True), (2, True)), ((2, True), (3, True))])
        state = State(net, [1, 2, 1])
        self.agree([can_be_done(state), defect(state), keeping(state),
                    keeping(State(net, [1, 1, 1], [None, 1, 1, None]))], [True, None, [1], [0, 2]])
        other = State(net, [1, 3, 1])
        self.agree([defect(other), is_defect(other, ('often', 2, 1)), is_defect(other, ('often', 2, 2)),
                    keeping(other)], [('often', 1, 1), True, False, []])
        self.refuses(Impossible, {"defect": ('often', 1, 1)}, schedule_of, other)

    def test_leasts(self):
        from otherfirst.errors import NotLeast, NotStuck
        from otherfirst.leasts import held_up, is_why_least, least_schedule, stuck, why_least
        from otherfirst.nets import Net
        from otherfirst.states import State
        net = Net(4, [((0, True), (1, True)), ((1, True), (2, True)), ((2, True), (3, True))])
        state = State(net, [1, 2, 1])
        self.agree([least_schedule(state), why_least(state, [1, 0, 2, 1])], [[1, 0, 2, 1], [(0, 0, 1), (2, 1, 2)]])
        self.refuses(NotLeast, {"at": 1, "task": 0}, why_least, state, [1, 2, 0, 1])
        self.agree([is_why_least(state, [1, 0, 2, 1], [(0, 0, 1), (2, 1, 2)]),
                    is_why_least(state, [1, 2, 0, 1], [])], [True, False])
        self.agree([stuck(state), held_up(State(net, [1, 1, 0], [0, 1, None, None]))], [False, [(0, 0), (1, 1)]])
        self.refuses(NotStuck, {"task": 0}, held_up, state)

    def test_stations(self):
        from otherfirst.errors import NotAsking
        from otherfirst.stations import Station, is_letter
        low = Station(0, [(0, 1, True, 1)])
        high = Station(1, [(0, 0, True, 1), (1, None, True, 1)])
        self.agree([low.open_tasks(), high.open_tasks(), high.addable()], [[0], [0, 1], [0, 1]])
        self.agree(high.tick(), [('ask', 'run', 0, 1, 0)])
        self.agree([is_letter(low, ('ask', 'run', 0, 1, 0)), is_letter(low, ('yes', 'run', 0, 1, 0))], [True, False])
        self.agree(low.take(('ask', 'run', 0, 1, 0)), [('yes', 'run', 0, 1, 1)])
        self.agree([low.held, low.tick()], [('run', 0, 1), [('yes', 'run', 0, 1, 1)]])
        self.agree(high.take(('yes', 'run', 0, 1, 1)), [('done', 'run', 0, 1, 0)])
        self.agree([high.take(('yes', 'run', 0, 1, 1)), high.log(), high.knows()],
                   [[('done', 'run', 0, 1, 0)], [('run', 1), ('run', 0)], (0, None, ((0, 0, 0), (1, 0, 0)))])
        self.agree([low.take(('done', 'run', 0, 1, 0)), low.log(), low.decided(), low.held],
                   [[], [('run', 0)], [], None])
        self.refuses(NotAsking, {"task": 0}, low.order, 0)

    def test_exchanges(self):
        from otherfirst.errors import Impossible
        from otherfirst.exchanges import Exchange
        from otherfirst.nets import Net
        from otherfirst.states import State
        net = Net(2, [((0, True), (1, True)), ((1, True),)])
        exchange = Exchange(State(net, [1, 1]))
        self.agree(exchange.tick(0), None)
        self.agree(exchange.tick(1), None)
        self.agree([exchange.letters(), exchange.history()], [[('ask', 'run', 0, 1, 0)], [('run', 1)]])
        self.agree(exchange.deliver(0), None)
        self.agree(exchange.deliver(0), None)
        self.agree([exchange.letters(), exchange.history()], [[('done', 'run', 0, 1, 0)], [('run', 1), ('run', 0)]])
        self.agree([exchange.knows(0), exchange.present().lasts], [(None, ('run', 0, 1), ((0, 1, 0),)), (0, 0)])
        self.agree(exchange.lose(0), None)
        self.agree([exchange.settle(), exchange.knows(0), exchange.present().load], [2, (0, None, ((0, 0, 0),)), (0, 0)])
        self.refuses(Impossible, {"defect": ('often', 0, 0)}, Exchange, State(net, [2, 0]))

    def test_lasts(self):
        from otherfirst.lasts import circle_of, is_true, looks, why_false
        from otherfirst.nets import Net
        net = Net(3, [((0, True), (1, True)), ((1, True), (2, False)), ((0, True), (2, True)), ((2, True),)])
        self.agree([looks(net, [0, 1, 3]), is_true(net, [0, 1, 3]), looks(net, [None, 1, 1])],
                   [[1, 2, 2], True, [None, 2, 1]])
        self.agree([why_false(net, [0, 1, None]), circle_of(net, [0, 1, 2])], [('bare', 1), [(0, 0), (1, 1), (2, 2)]])

    def test_pasts(self):
        from otherfirst.errors import NeverAhead
        from otherfirst.nets import Net
        from otherfirst.pasts import count_pasts, is_past, past_of, past_with, sure_order
        net = Net(4, [((0, True), (1, True)), ((1, True), (2, True)), ((2, True), (3, True))])
        self.agree([past_of(net, [0, 1, 1, None]), count_pasts(net, [0, 0, 2, 2]), sure_order(net, [0, 1, 1, None])],
                   [[0, 1], 2, [(0, 1), (0, 2)]])
        self.agree([past_with(net, [0, 0, 2, 2], 3, 1), is_past(net, [0, 0, 2, 2], (1, 0, 2)),
                    is_past(net, [0, 0, 2, 2], [0, 1, 0, 2])], [[2, 0], True, False])
        self.refuses(NeverAhead, {"way": [0, 1, 2]}, past_with, net, [0, 1, 1, None], 2, 0)


class StageThreeExamples(Case):
    def test_memories(self):
        from otherfirst.errors import Circled
        from otherfirst.memories import forgotten, is_parting_load, parting_load, rested, to_forget
        from otherfirst.nets import Net
        from otherfirst.states import State
        net = Net(2, [((0, True), (1, True)), ((0, False), (1, True))])
        state = State(net, [1, 1], [0, 1])
        self.agree([rested(state, [2, 0]).net.line(), rested(state, [2, 0]).line()],
                   ['2: 0!1! 0?1! 0? 1?', '1 1 2 0 / 0 1'])
        self.agree([to_forget(state), to_forget(State(net, [1, 0], [0, 0])), forgotten(state, [1]).lasts],
                   [([], [[(0, 0), (1, 1)]]), ([0, 1], []), (0, None)])
        self.agree([parting_load(net, [1, 1], [None, 1]),
                    is_parting_load(net, [None, 1], [None, 0], ((0, 1), (1, 0)))],
                   [None, True])
        self.refuses(Circled, {'circle': [(0, 0), (1, 1)]}, parting_load, net, [0, 1], [0, 0])

    def test_taking_and_passages(self):
        from otherfirst.errors import NotAbove
        from otherfirst.nets import Net
        from otherfirst.passages import opposite, passage
        from otherfirst.states import State
        from otherfirst.taking import addable, climb, greater, is_build, removable
        net = Net(3, [((0, True), (1, True)), ((1, True), (2, True)), ((2, False),)])
        state = State(net, [1, 2, 1])
        self.agree([addable(state), removable(state), addable(State(net, [0, 2, 1]))], [[2], [1], [0]])
        self.agree([is_build(state, [0, 1, 2, 1]), is_build(state, [0, 1, 1, 2])], [True, False])
        self.agree([opposite(state, [0, 1, 2, 1], [2, 1, 0, 1]), len(passage(state, [0, 1, 2, 1], [2, 1, 0, 1]))],
                   [3, 4])
        self.agree(passage(state, [1, 0, 2, 1], (0, 1, 2, 1)), [[1, 0, 2, 1], [0, 1, 2, 1]])
        self.agree([greater(State(net, [1, 1, 0]), [0, 1, 3]).load, climb(State(net, [1, 1, 0]), [1, 2, 1])],
                   [(1, 1, 3), [2, 1]])
        self.refuses(NotAbove, {"task": 1}, climb, state, [1, 1, 1])

    def test_greatest(self):
        from otherfirst.errors import Circled, NotThatOften
        from otherfirst.greatest import greatest, is_reasons, level
        from otherfirst.nets import Net
        net = Net(3, [((0, True), (1, True)), ((0, True), (1, True)), ((1, True), (2, True)), ((2, False),)])
        fresh = [None, None, None]
        self.agree([greatest(net, fresh, [1, 9, 9, 9]), greatest(net, [1, None, None], [1, 9, 9, 9])],
                   [(1, 2, 4, 9), (1, 1, 3, 9)])
        self.agree(is_reasons(net, fresh, [1, 9, 9, 9], [(3, 9, None), (0, 1, None), (1, 2, 0), (2, 4, 1)]), True)
        self.agree(is_reasons(net, fresh, [1, 9, 9, 9], [(1, 2, 0), (3, 9, None), (0, 1, None), (2, 4, 1)]), False)
        self.refuses(NotThatOften, {'most': 2}, level, net, fresh, [1, 9, 9, 9], 1, 3)
        self.refuses(Circled, {'circle': [(0, 0), (1, 1)]}, greatest, net, [0, 1, None], [1, 1, 1, 1])

    def test_walks(self):
        from otherfirst.errors import Impossible
        from otherfirst.nets import Net
        from otherfirst.walks import is_strikes, leaves, lowered, price
        net = Net(3, [((0, True), (1, True)), ((0, True), (1, True)), ((1, True), (2, True)), ((2, False),)])
        fresh = [None, None, None]
        self.agree(lowered(net, fresh, [1, 2, 4, 5], 0), ((0, 1, 2, 5), [[(0, 1), (1, 2)], [(1, 2)]]))
        self.agree([price(net, fresh, [1, 2, 4, 5], 0), price(net, fresh, [1, 2, 4, 5], 3)], [3, 0])
        self.agree(leaves(net, fresh, [1, 2, 4, 5], 0), ((0, 0, 1, 5), [(1, 2), (1, 2), (1, 2)]))
        self.agree(is_strikes(net, fresh, [1, 2, 4, 5], 0, [(1, 2), (1, 2)]), False)
        self.refuses(Impossible, {'defect': ('often', 0, 1)}, lowered, net, fresh, [0, 2, 1, 5], 2)

    def test_boxes(self):
        from otherfirst.boxes import fate_between, is_fate_between, waived, waivers
        from otherfirst.errors import NotAbove
        from otherfirst.nets import Net
        from otherfirst.states import State
        net = Net(3, [((0, True), (1, True)), ((1, True), (2, True)), ((2, True),)])
        fresh = [None, None, None]
        self.agree([fate_between(net, fresh, [0, 0, 0], [1, 0, 1]),
                    fate_between(net, fresh, [0, 2, 0], [1, 3, 0])[:2]],
                   [('sure',), ('never', 1)])
        self.agree(is_fate_between(net, fresh, [0, 0, 0], [1, 2, 0], ("open", (1, 1, 0), (0, 2, 0))), True)
        self.agree([waivers(State(net, [2, 0, 0])), waived(State(net, [2, 0, 0]), [(1, 0), (0, 0)]).net.line()],
                   [([(0, 0), (1, 0)], []), '3: 0?1? 1!2! 2!'])
        pair = Net(2, [((0, True), (1, True)), ((0, True), (1, True))])
        self.agree(waivers(State(pair, [1, 1], [0, 1])), ([], [[(0, 0), (1, 1)]]))
        self.refuses(NotAbove, {"task": 1}, fate_between, net, fresh, [0, 2, 0], [1, 1, 0])

    def test_partial(self):
        from otherfirst.errors import FalseLasts, NeverLast
        from otherfirst.nets import Net
        from otherfirst.partial import fate_known, full_lasts, last_could_be
        from otherfirst.states import State
        net = Net(3, [((0, True), (1, True)), ((1, True), (2, True)), ((2, True),)])
        self.agree([full_lasts(net, [0, 0, 1], [True, True, False])[:2],
                    last_could_be(net, [0, None, 2], [True, False, True], 1, 1)],
                   [(0, 0), (0, 1, 2)])
        self.agree([fate_known(State(net, [1, 1, 0], [None, 0, None]), [False, True, True]),
                    fate_known(State(net, [0, 1, 1]), [False, True, False])],
                   [(0, 0, None), None])
        self.refuses(NeverLast, {'way': [2]}, last_could_be, net, [0, None, None], [True, False, True], 1, 1)
        self.refuses(FalseLasts, {'reason': ('bare', 0)}, full_lasts, net, [0, None, None], [True, True, False])


class StageFourExamples(Case):
    def test_profiles_and_joins_and_helps(self):
        from otherfirst.errors import SharedTask
        from otherfirst.helps import helped, least_help, shared_help
        from otherfirst.joins import is_parting, joined, merged, never_worse
        from otherfirst.nets import Net
        from otherfirst.profiles import fits, need, profile, together
        from otherfirst.states import State
        net = Net(3, [((0, True), (1, True)), ((1, True), (2, False)), ((2, True),)])
        state = State(net, [2, 1, 0])
        self.agree([need(state, 0), profile(state)], [1, ((1, 2), (0, 3), (0, 1))])
        other = State(Net(3, [((0, False),), ((2, True),)]), [1, 3])
        self.agree([profile(other), joined(state, other).line()], [((0, 1), (0, 0), (2, 3)), '2 1 0 1 3 / - - -'])
        self.agree([fits(profile(state), profile(other)), together(profile(state), profile(other))],
                   [False, ((0, 3), (0, 3), (1, 4))])
        later = State(net, [2, 1, 0], [None, 0, 2])
        self.agree([never_worse(state, later), is_parting(state, later, State(Net(3, [((0, False),)]), [1]))],
                   [None, True])
        self.agree([least_help(later), shared_help(later), helped(state, [(0, 2)]).net.line()],
                   [(1, 1, 0), [(0, 1)], '3: 0!1! 1!2? 2! 0?2?'])
        self.agree([merged(later, 2, 0).net.line(), merged(later, 2, 0).lasts], ['2: 0!1! 0!1? 1!', (0, 2)])
        self.refuses(SharedTask, {"task": 0}, merged, later, 0, 1)

    def test_errands(self):
        from otherfirst.errands import errands, is_errand, is_errands, repeated, times_over
        from otherfirst.errors import NotForEver
        from otherfirst.nets import Net
        from otherfirst.states import State
        net = Net(3, [((0, True), (1, True)), ((1, True), (2, True)), ((0, True),), ((2, False),)])
        self.agree([times_over(State(net, [1, 1, 1, 1])), times_over(State(net, [1, 1, 1, 0])),
                    times_over(State(net, [3, 1, 1, 1]))],
                   [None, 1, 0])
        self.agree(repeated(State(net, [1, 0, 2, 1]), 3).load, (3, 0, 6, 3))
        self.agree([is_errand(net, [2, 0, 0, 1, 1, 2, 3]), is_errand(net, [2, 0, 2]), is_errand(net, [3, 2, 3])],
                   [True, False, True])
        self.agree(is_errands(State(net, [1, 1, 1, 2]), [[2, 0, 0, 1, 1, 2, 3], [3, 2, 1, 1, 0, 0, 2], [3, 2, 3]]),
                   True)
        self.refuses(NotForEver, {"node": 2, "task": 1}, errands, State(net, [1, 1, 1, 0]))

    def test_branches(self):
        from otherfirst.branches import errand_through, is_closed_branch
        from otherfirst.errors import NoErrand
        from otherfirst.nets import Net
        net = Net(4, [((0, True), (1, True)), ((1, True), (2, True)), ((2, True), (3, True)), ((3, False),)])
        self.agree([is_closed_branch(net, 1, 1, [1, 0]), is_closed_branch(net, 1, 1, [1]),
                    is_closed_branch(net, 1, 2, [2, 3])],
                   [True, False, False])
        self.agree(errand_through(net, 3), [3, 3, 3])
        self.refuses(NoErrand, {"node": 2, "branch": [0, 1, 2]}, errand_through, net, 2)

    def test_rows(self):
        from otherfirst.errors import Unequal
        from otherfirst.nets import Net
        from otherfirst.rows import count_own_rows, fit, is_fit_ring, own_rows
        from otherfirst.states import State
        net = Net(3, [((0, True), (1, True)), ((1, True), (2, True)), ((2, True),)])
        self.agree([own_rows(State(net, [1, 1, 1]), 1), count_own_rows(State(net, [2, 2, 0], [None, 0, None]), 1)],
                   [[[0, 1], [1, 0]], 1])
        self.agree(fit(net, [[0], [1, 0], [2, 1]]), [2, 1, 0])
        pair = Net(2, [((0, True), (1, True)), ((0, False), (1, True))])
        self.agree([is_fit_ring(pair, [[0, 1], [1, 0]], [(0, 0), (1, 0)]),
                    is_fit_ring(pair, [[0, 1], [0, 1]], [(0, 0), (1, 0)])],
                   [True, False])
        self.refuses(Unequal, {"task": 1}, fit, pair, [[0, 1, 1], [1, 0]])


class StageFiveExamples(Case):
    def test_stories(self):
        from otherfirst.errors import TooMany
        from otherfirst.nets import Net
        from otherfirst.states import State
        from otherfirst.stories import count_stories, forest_ring, is_forest_ring, stories, story_of
        net = Net(3, [((0, True), (1, True)), ((1, True), (2, True)), ((2, True),)])
        self.agree([story_of(net, [2, 1, 0]), count_stories(State(net, [1, 1, 1])), forest_ring(net)],
                   [((0,), (1, 0), (2, 1)), 4, None])
        self.agree(stories(State(net, [1, 1, 1], [None, 1, None])), [((0,), (0, 1), (1, 2)), ((0,), (0, 1), (2, 1))])
        pair = Net(2, [((0, True), (1, True)), ((0, False), (1, True))])
        self.agree([is_forest_ring(pair, [(0, 0), (1, 1)]), is_forest_ring(pair, [(0, 0), (1, 0)]),
                    stories(State(pair, [1, 1]))],
                   [True, False, [((0, 1), (0, 1)), ((1, 0), (1, 0))]])
        self.refuses(TooMany, {"count": 401}, stories, State(net, [401, 0, 0]))

    def test_nexts(self):
        from otherfirst.errors import NotBehind, NotBetween
        from otherfirst.nets import Net
        from otherfirst.nexts import behind, between, is_between
        from otherfirst.states import State
        net = Net(3, [((0, True), (1, True)), ((1, True), (2, True)), ((2, True),)])
        state = State(net, [1, 1, 1])
        self.agree(between(state, [None, 0, 1]), [0, 1, 2])
        self.agree([is_between(state, [None, 1, None], [0, 1, 2]), is_between(state, [None, 1, None], [2, 1, 0])],
                   [False, True])
        self.agree(behind(net, [1, 1, 1], [0, 0, 1]), [2, 1, 0])
        self.refuses(NotBetween, {"node": 0}, between, state, [0, None, None])
        self.refuses(NotBehind, {"node": 2}, behind, net, [1, 1, 1], [0, 0, None])

    def test_heads(self):
        from otherfirst.errors import NotPlain
        from otherfirst.heads import capped, core, heads, off_core, tops
        from otherfirst.nets import Net
        row = Net(4, [((0, True), (1, True)), ((1, True), (2, True)), ((2, True), (3, True))])
        fresh = [None, None, None, None]
        self.agree([heads(row, fresh, 1, 1), heads(row, fresh, 0, 1), heads(row, [0, 0, None, None], 1, 1),
                    tops(row, fresh)],
                   [2, 3, 1, (1, 2, 1)])
        hung = Net(4, [((0, True), (1, True)), ((1, True), (2, True)), ((0, True), (2, True)), ((2, True), (3, True))])
        self.agree([heads(hung, fresh, 3, 2), tops(hung, fresh), capped(hung, fresh, 5), core(hung),
                    off_core(hung, fresh)],
                   [None, (None, None, None, 1), (5, 5, 5, 1), [0, 1, 2], 1])
        self.agree([tops(hung, [None, None, 3, 3]), off_core(hung, [None, None, 3, 3]), core(row), off_core(row, fresh)],
                   [(None, None, None, 0), 0, [], 4])
        self.refuses(NotPlain, {"task": 0}, tops, Net(2, [((0, True), (1, False))]), [None, None])

    def test_gathers(self):
        from otherfirst.errors import Barred
        from otherfirst.gathers import gathering, ledger, longest, longest_day, toll, way
        from otherfirst.nets import Net
        row = Net(4, [((0, True), (1, True)), ((1, True), (2, True)), ((2, True), (3, True))])
        fresh = [None, None, None, None]
        self.agree([way(row, 3, 0), gathering(row, fresh, 0), longest(row, fresh), len(longest_day(row, fresh))],
                   [[2, 1, 0], 6, (4, 1), 4])
        self.agree([ledger(row, fresh, [1, 0, 2, 1], 1), ledger(row, fresh, [0, 1], 2)], [[1, 1, 1, 1], [2, 1]])
        self.agree([toll(row, fresh, 0), toll(row, fresh, 1), longest(row, (None, 1, 1, None))], [1, 0, (3, 1)])
        self.refuses(Barred, {"nodes": [1, 2]}, toll, row, (None, 1, 1, None), 1)

    def test_days_and_rounds(self):
        from otherfirst.days import day_of, end_of_day, is_day, middles, outward, shortest_day
        from otherfirst.errors import NoDay
        from otherfirst.nets import Net
        from otherfirst.rounds import count_longest, is_rounds, longest_rounds
        row = Net(4, [((0, True), (1, True)), ((1, True), (2, True)), ((2, True), (3, True))])
        self.agree([row.line(), middles(row), outward(row)], ['4: 0!1! 1!2! 2!3!', [1, 2], [1, 4, 2, 1]])
        self.agree([longest_rounds(row), is_rounds(row, [[0, 2], [1]]), is_rounds(row, [[0, 1]])],
                   [[[1], [0, 2], [1]], True, False])
        self.agree([end_of_day(row, 2), shortest_day(row, 2)], [(0, 1, 2, 2), [0, 1, 2]])
        self.agree([is_day(row, [None] * 4, [1, 0, 2, 1]), is_day(row, [None] * 4, [1, 0, 2]),
                    is_day(row, [0, 0, 2, 2], [1])],
                   [True, False, True])
        star = Net(4, [((0, True), (1, True)), ((0, True), (2, True)), ((0, True), (3, True))])
        self.agree([count_longest(row), count_longest(star), len(day_of(row, 4))], [1, 6, 4])
        self.refuses(NoDay, {"least": 3, "most": 4}, day_of, row, 5)


class StageSixExamples(Case):
    def test_heights(self):
        from otherfirst.heights import count_row_loads, row_index, row_load, row_net
        from otherfirst.nets import Net
        row = row_net(4)
        self.agree([row.line(), row == Net(4, [((0, True), (1, True)), ((1, True), (2, True)), ((2, True), (3, True))])],
                   ['4: 0!1! 1!2! 2!3!', True])
        self.agree([count_row_loads(4), row_load(4, 8), row_index(4, [1, 1, 0])], [9, (1, 2, 1), 6])

    def test_gangs(self):
        from otherfirst.errors import NoSchedule
        from otherfirst.gangs import Gang, gang_moves, gang_often, gang_schedule, is_gang_fence
        pairs = [((0, True), (1, True)), ((1, True), (2, True)), ((0, True), (2, True))]
        gang = Gang(3, pairs + [((0, True), (1, True), (2, True))])
        fresh = [None, None, None]
        self.agree([gang_often(gang, [1, 1, 1, 3], fresh), gang_often(gang, [0, 1, 1, 3], fresh),
                    gang_moves(gang, [1, 0, 1, 2], [3, 3, 3])],
                   [[], [(0, 3), (1, 3)], [0, 2]])
        self.agree(is_gang_fence(gang, [0, 0, 0, 1], [3, None, None], [((0, 0, 0, 1), (3, None, None))]), True)
        with self.assertRaises(NoSchedule) as caught:
            gang_schedule(gang, [1, 1, 1, 3], fresh)
        self.agree(is_gang_fence(gang, [1, 1, 1, 3], fresh, caught.exception.fence), True)

    def test_tints(self):
        from otherfirst.tints import tie_number, tintings, tints_of, web_gang
        square = [(0, 1), (1, 2), (2, 3), (0, 3)]
        self.agree([tie_number(4, square), web_gang(4, square)[1], tintings(4, square),
                    tintings(3, [(0, 1), (0, 2), (1, 2)])],
                   [2, (1, 1, 1, 1, 3), [[0, 1, 0, 1], [1, 0, 1, 0]], []])
        self.agree(tints_of(4, square, [4, 3, 1, 4, 2, 0, 4]), [1, 0, 1, 0])

    def test_air_and_clubs(self):
        from otherfirst.air import air_defect, air_keeping, air_schedule
        from otherfirst.clubs import is_club_fence
        from otherfirst.nets import Net
        from otherfirst.states import State
        net = Net(3, [((0, False), (1, False)), ((0, False), (2, False)), ((1, True),)])
        self.agree([air_schedule(State(net, [2, 0, 1]), [0]), air_keeping(State(net, [2, 0, 1]), [0]),
                    air_defect(State(net, [3, 0, 1]), [0])],
                   [[0, 2, 0], [0], ('close', 0)])
        self.agree(is_club_fence(State(net, [1, 0, 0], [1, None, 1]), [0, 5, 5], [((1, 0, 0), (1, None, 1))]), True)

    def test_desk(self):
        from otherfirst.desk import Desk
        from otherfirst.errors import Barred
        from otherfirst.nets import Net
        desk = Desk(Net(2, [((0, True), (1, True)), ((0, True),), ((1, True),)]))
        self.agree([desk.wish(0, 2), desk.wishes(), desk.wish(1), desk.load()],
                   [[('more', 0)], (1, 0, 0), [('more', 1)], (1, 1, 0)])
        self.agree([desk.wish(2, number=2), desk.load(), desk.wishes(), desk.next_runs()],
                   [[('more', 2), ('more', 0), ('more', 2)], (2, 1, 2), (0, 0, 0), [0, 2]])
        self.agree([desk.run(0), desk.strike(1), desk.load(), desk.undo(), desk.load()],
                   [[('run', 0)], [('strike', 1), ('strike', 0), ('strike', 2)], (0, 0, 1), None, (1, 1, 2)])
        self.agree([desk.tried([('leave', 0)]).load(), desk.lasts(), desk.forecast(), desk.greatest_within([9, 1, 9])],
                   [(0, 0, 1), (0, 0), [1, 2, 0, 2], (1, 1, 2)])
        self.agree([desk.forget(1), desk.journal()],
                   [[('forget', 1)], ['wish 0 2', 'wish 1 1', 'wish 2 2', 'run 0', 'forget 1']])
        self.refuses(Barred, {"nodes": [0]}, desk.run, 0)

    def test_journal(self):
        from otherfirst.errors import InvalidLine
        from otherfirst.journal import read_desk
        from otherfirst.nets import Net
        net = Net(2, [((0, True), (1, True)), ((0, True),), ((1, True),)])
        desk = read_desk(net, None, ["wish 0 2", "wish 1 1", "forget 1"])
        self.agree([desk.load(), desk.wishes(), desk == read_desk(net, (None, None), desk.journal())],
                   [(1, 1, 0), (1, 0, 0), True])
        self.refuses(InvalidLine, {"given": 'run 00'}, read_desk, net, None, ["wish 0 401", "run 00"])


if __name__ == "__main__":
    unittest.main()
