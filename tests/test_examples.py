"""The examples under the headings of the interface, as they stand there."""

import unittest

from tests.helpers import Case


class StageOneExamples(Case):
    def test_nets(self):
        from otherfirst.errors import NotAnEnd
        from otherfirst.nets import Net, is_lasts, is_load, read_net
        net = Net(3, [((0, True), (1, True)), ((1, True), (2, False)), ((2, True),)])
        self.agree([net.nodes, len(net), net.tasks[2], net.ends(1), net.at(1)],
                   [3, 3, ((2, True),), (1, 2), [0, 1]])
        self.agree([net.far(1, 2), net.far(2, 2), net.minds(1, 1), net.minds(1, 2)], [1, None, True, False])
        self.agree([is_load(net, [2, 1, 0]), is_load(net, [2, True, 0]),
                    is_lasts(net, [None, 0, 2]), is_lasts(net, [1, 0, 2])], [True, False, True, False])
        self.agree([net.line(), read_net("3: 0!1! 1!2? 2!") == net, read_net("1:").nodes],
                   ['3: 0!1! 1!2? 2!', True, 1])
        self.refuses(NotAnEnd, {"task": 0, "node": 2}, net.far, 0, 2)

    def test_states(self):
        from otherfirst.errors import NotMinded
        from otherfirst.nets import Net
        from otherfirst.states import State, fine, read_state, slack, slacks, tight, too_often, urgent, work
        net = Net(3, [((0, True), (1, True)), ((1, True), (2, False)), ((2, True),)])
        state = State(net, [2, 1, 0], [None, 0, 2])
        self.agree([state.total(), state.line(), work(state, 1), slack(state, 1, 1)], [3, '2 1 0 / - 0 2', 3, 2])
        self.agree(slacks(state), [(0, 0, -1), (1, 0, -1), (1, 1, 2), (2, 2, 1)])
        self.agree([fine(state), too_often(state)], [False, [(0, 0), (1, 0)]])
        other = read_state(net, "1 1 0 / - - -")
        self.agree([tight(other, 0), urgent(other, 0), tight(other, 1), other.lasts], [0, 0, None, (None, None, None)])
        rest = State(net, [0, 0, 0], lasts=[0, 0, None])
        self.agree([tight(rest, 0), urgent(rest, 0), fine(rest)], [0, None, True])
        self.refuses(NotMinded, {"task": 1, "node": 2}, slack, state, 1, 2)

    def test_runs(self):
        from otherfirst.errors import Barred
        from otherfirst.nets import Net
        from otherfirst.runs import bars, legal, open_tasks, run, safe, spoils
        from otherfirst.states import State
        net = Net(3, [((0, True), (1, True)), ((1, True), (2, False)), ((2, True),)])
        state = State(net, [1, 2, 1])
        self.agree([legal(state), safe(state), spoils(state)], [[0, 1, 2], [1, 2], [(0, 1, 1)]])
        self.agree([open_tasks(state, 0), open_tasks(state, 1), open_tasks(state, 2)], [[0], [1], [1, 2]])
        behind = run(state, 1)
        self.agree([behind.load, behind.lasts, bars(behind, 1), legal(behind)],
                   [(1, 1, 1), (None, 1, 1), [1], [0, 2]])
        self.refuses(Barred, {"nodes": [1]}, run, behind, 1)

    def test_schedules(self):
        from otherfirst.errors import Stopped
        from otherfirst.nets import Net
        from otherfirst.schedules import is_complete, is_schedule, own_row, run_all, wastes
        from otherfirst.states import State
        net = Net(3, [((0, True), (1, True)), ((1, True), (2, False)), ((2, True),)])
        state = State(net, [1, 2, 1])
        self.agree([run_all(state, [2, 1, 0]).load, is_schedule(state, [2, 1, 0]), is_complete(state, (1, 0, 1, 2))],
                   [(0, 1, 0), True, True])
        self.agree([own_row(net, [1, 0, 1, 2], 2), wastes(state, [1, 0, 1, 2], 1, 1),
                    wastes(state, [1, 0, 1, 2], 1, 0)], [[1, 1, 2], [], [0]])
        self.refuses(Stopped, {"at": 3, "reached": State(net, [0, 1, 0], [0, 1, 1])}, run_all, state, [2, 0, 1, 1])

    def test_rings(self):
        from otherfirst.nets import Net
        from otherfirst.rings import is_ring, rings
        from otherfirst.states import State
        net = Net(3, [((0, True), (1, True)), ((1, True), (2, True)), ((0, True), (2, True))])
        state = State(net, [1, 1, 1], [0, 1, 2])
        self.agree([rings(state), rings(State(net, [1, 1, 2], [0, 1, 2]))], [[[(0, 0), (1, 1), (2, 2)]], []])
        self.agree([is_ring(state, [(1, 1), (2, 2), (0, 0)]), is_ring(state, [(0, 0), (2, 2), (1, 1)])], [True, False])


class StageTwoExamples(Case):
    def test_decide(self):
        from otherfirst.decide import can_be_done, defect, is_defect, keeping, schedule_of
        from otherfirst.errors import Impossible
        from otherfirst.nets import Net
        from otherfirst.states import State
        net = Net(4, [((0, True), (1, True)), ((1, True), (2, True)), ((2, True), (3, True))])
        state = State(net, [1, 2, 1])
        self.agree([can_be_done(state), defect(state), keeping(state),
                    keeping(State(net, [1, 1, 1], [None, 1, 1, None]))], [True, None, [1], [0, 2]])
        other = State(net, [1, 3, 1])
        self.agree([defect(other), is_defect(other, ('often', 2, 1)), is_defect(other, ('often', 2, 2)),
                    keeping(other)], [('often', 1, 1), True, False, []])
        self.refuses(Impossible, {"defect": ('often', 1, 1)}, schedule_of, other)

    def test_leasts(self):
        from otherfirst.errors import NotLeast, NotStuck
        from otherfirst.leasts import held_up, is_why_least, least_schedule, stuck, why_least
        from otherfirst.nets import Net
        from otherfirst.states import State
        net = Net(4, [((0, True), (1, True)), ((1, True), (2, True)), ((2, True), (3, True))])
        state = State(net, [1, 2, 1])
        self.agree([least_schedule(state), why_least(state, [1, 0, 2, 1])], [[1, 0, 2, 1], [(0, 0, 1), (2, 1, 2)]])
        self.refuses(NotLeast, {"at": 1, "task": 0}, why_least, state, [1, 2, 0, 1])
        self.agree([is_why_least(state, [1, 0, 2, 1], [(0, 0, 1), (2, 1, 2)]),
                    is_why_least(state, [1, 2, 0, 1], [])], [True, False])
        self.agree([stuck(state), held_up(State(net, [1, 1, 0], [0, 1, None, None]))], [False, [(0, 0), (1, 1)]])
        self.refuses(NotStuck, {"task": 0}, held_up, state)

    def test_stations(self):
        from otherfirst.errors import NotAsking
        from otherfirst.stations import Station, is_letter
        low = Station(0, [(0, 1, True, 1)])
        high = Station(1, [(0, 0, True, 1), (1, None, True, 1)])
        self.agree([low.open_tasks(), high.open_tasks(), high.addable()], [[0], [0, 1], [0, 1]])
        self.agree(high.tick(), [('ask', 'run', 0, 1, 0)])
        self.agree([is_letter(low, ('ask', 'run', 0, 1, 0)), is_letter(low, ('yes', 'run', 0, 1, 0))], [True, False])
        self.agree(low.take(('ask', 'run', 0, 1, 0)), [('yes', 'run', 0, 1, 1)])
        self.agree([low.held, low.tick()], [('run', 0, 1), [('yes', 'run', 0, 1, 1)]])
        self.agree(high.take(('yes', 'run', 0, 1, 1)), [('done', 'run', 0, 1, 0)])
        self.agree([high.take(('yes', 'run', 0, 1, 1)), high.log(), high.knows()],
                   [[('done', 'run', 0, 1, 0)], [('run', 1), ('run', 0)], (0, None, ((0, 0, 0), (1, 0, 0)))])
        self.agree([low.take(('done', 'run', 0, 1, 0)), low.log(), low.decided(), low.held],
                   [[], [('run', 0)], [], None])
        self.refuses(NotAsking, {"task": 0}, low.order, 0)

    def test_exchanges(self):
        from otherfirst.errors import Impossible
        from otherfirst.exchanges import Exchange
        from otherfirst.nets import Net
        from otherfirst.states import State
        net = Net(2, [((0, True), (1, True)), ((1, True),)])
        exchange = Exchange(State(net, [1, 1]))
        self.agree(exchange.tick(0), None)
        self.agree(exchange.tick(1), None)
        self.agree([exchange.letters(), exchange.history()], [[('ask', 'run', 0, 1, 0)], [('run', 1)]])
        self.agree(exchange.deliver(0), None)
        self.agree(exchange.deliver(0), None)
        self.agree([exchange.letters(), exchange.history()], [[('done', 'run', 0, 1, 0)], [('run', 1), ('run', 0)]])
        self.agree([exchange.knows(0), exchange.present().lasts], [(None, ('run', 0, 1), ((0, 1, 0),)), (0, 0)])
        self.agree(exchange.lose(0), None)
        self.agree([exchange.settle(), exchange.knows(0), exchange.present().load], [2, (0, None, ((0, 0, 0),)), (0, 0)])
        self.refuses(Impossible, {"defect": ('often', 0, 0)}, Exchange, State(net, [2, 0]))

    def test_lasts(self):
        from otherfirst.lasts import circle_of, is_true, looks, why_false
        from otherfirst.nets import Net
        net = Net(3, [((0, True), (1, True)), ((1, True), (2, False)), ((0, True), (2, True)), ((2, True),)])
        self.agree([looks(net, [0, 1, 3]), is_true(net, [0, 1, 3]), looks(net, [None, 1, 1])],
                   [[1, 2, 2], True, [None, 2, 1]])
        self.agree([why_false(net, [0, 1, None]), circle_of(net, [0, 1, 2])], [('bare', 1), [(0, 0), (1, 1), (2, 2)]])

    def test_pasts(self):
        from otherfirst.errors import NeverAhead
        from otherfirst.nets import Net
        from otherfirst.pasts import count_pasts, is_past, past_of, past_with, sure_order
        net = Net(4, [((0, True), (1, True)), ((1, True), (2, True)), ((2, True), (3, True))])
        self.agree([past_of(net, [0, 1, 1, None]), count_pasts(net, [0, 0, 2, 2]), sure_order(net, [0, 1, 1, None])],
                   [[0, 1], 2, [(0, 1), (0, 2)]])
        self.agree([past_with(net, [0, 0, 2, 2], 3, 1), is_past(net, [0, 0, 2, 2], (1, 0, 2)),
                    is_past(net, [0, 0, 2, 2], [0, 1, 0, 2])], [[2, 0], True, False])
        self.refuses(NeverAhead, {"way": [0, 1, 2]}, past_with, net, [0, 1, 1, None], 2, 0)


if __name__ == "__main__":
    unittest.main()
