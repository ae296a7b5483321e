"""Point [175]: journals, and desks that are read from them."""

import random
import unittest

from otherfirst.desk import Desk
from otherfirst.errors import Barred, Circled, InvalidLasts, InvalidLine, InvalidNode, InvalidNumber, InvalidTask, NothingLeft
from otherfirst.errors import NothingToRedo, NothingToUndo, OtherError, Spoils
from otherfirst.journal import read_desk
from otherfirst.lasts import circle_of
from otherfirst.nets import Net
from tests.helpers import LONG, PAIR, TRIANGLE, Case, any_values, no_lasts_of, random_lasts, random_net
from tests.test_desk import NET, random_deed, told_of

WRONG_LINES = [
    "", " ", "wish", "wish ", "wish 0", "wish 0 ", "wish  0 1", " wish 0 1", "wish 0 1 ", "wish 0 1 2", "wish 0  1", "wish 00 1",
    "wish 0 01", "wish +0 1", "wish -1 1", "wish 0 -1", "wish 0 +1", "wish a 1", "wish 0 1.0", "wish 0 1e1", "wish 0x1 1", "wish 0 1_0",
    "wish\t0 1", "wish 0\n1", "wish 0 1\n", "\nwish 0 1", "Wish 0 1", "WISH 0 1", "wishes 0 1", "wish,0,1", "wish(0, 1)", "run", "run ",
    "run 00", "run 0 1", "run 0 ", " run 0", "run  0", "run -0", "run +1", "run 1.", "run one", "run None", "run True", "strike", "strike 0 1",
    "strike 007", "leave", "leave ", "leave 0 0", "leave -1", "forget", "forget  1", "forget 1 1", "forget 01", "undo", "redo", "undo 0",
    "more 0", "0 run", "0", "run 0;run 0", "wish 0 1,", "run \u0661", "run \u00b2", "wish 0\u00a01",
]


class JournalTest(Case):
    def test_lines_of_all_deeds(self):
        desk = Desk(NET)
        desk.wish(2, 2)
        desk.wish(1)
        desk.wish(0, number=400)
        desk.run(0)
        desk.strike(1)
        desk.leave(1)
        desk.forget(0)
        self.agree(desk.journal(), ["wish 2 2", "wish 1 1", "wish 0 400", "run 0", "strike 1", "leave 1", "forget 0"])
        desk.undo()
        desk.undo()
        self.agree(desk.journal(), ["wish 2 2", "wish 1 1", "wish 0 400", "run 0", "strike 1"])
        self.assertRaises(NothingLeft, desk.run, 1)
        self.agree(desk.journal()[4:], ["strike 1"])

    def test_numbers_of_two_digits(self):
        net = Net(24, [((node, True),) for node in range(24)])
        desk = Desk(net)
        desk.wish(23, 10)
        desk.leave(10)
        self.agree(desk.journal(), ["wish 23 10", "leave 10"])
        self.assertTrue(read_desk(net, None, desk.journal()) == desk)


class ReadDeskTest(Case):
    def test_long_journals(self):
        rng = random.Random(1)
        read = 0
        for _ in range(80):
            net = random_net(rng, 5, 6)
            lasts = random_lasts(rng, net)
            if len(net) == 0 or circle_of(net, lasts) is not None:
                continue
            desk = Desk(net, lasts)
            for _ in range(25):
                word, *values = random_deed(rng, net)
                try:
                    getattr(desk, word)(*values)
                except OtherError:
                    continue
            other = read_desk(net, lasts, desk.journal())
            self.assertTrue(other == desk and type(other) is Desk)
            self.agree(told_of(other), told_of(desk))
            for _ in desk.journal():
                other.undo()
            self.agree([other.lasts(), other.load()], [tuple(lasts), (0,) * len(net)])
            self.refuses(NothingToUndo, {}, other.undo)
            read += len(desk.journal())
        self.assertGreater(read, 800)

    def test_read_desk(self):
        desk = read_desk(net=NET, lasts=None, lines=["wish 0 2", "wish 1 1", "forget 1"])
        self.agree([desk.load(), desk.wishes(), desk.journal()], [(1, 1, 0), (1, 0, 0), ["wish 0 2", "wish 1 1", "forget 1"]])
        self.assertTrue(desk == read_desk(NET, (None, None), tuple(desk.journal())))
        self.refuses(NothingToRedo, {}, desk.redo)
        for lines in ([], ()):
            self.assertTrue(read_desk(NET, [1, None], lines) == Desk(NET, [1, None]))
        lines = ["wish 0 2"]
        read_desk(NET, None, lines).wish(1)
        self.agree(lines, ["wish 0 2"])

    def test_lines_of_another_form(self):
        self.refuses_all(InvalidLine, WRONG_LINES, lambda line: read_desk(NET, None, ["wish 0 1", line]))
        for value in any_values():
            self.refuses_all(InvalidLine, [value], lambda line: read_desk(NET, None, [line]))
            if value not in ([], ()):
                first = value[0] if isinstance(value, (list, tuple)) else value
                with self.assertRaises(InvalidLine) as caught:
                    read_desk(NET, None, value)
                self.assertIs(caught.exception.given, first)

    def test_no_list_of_lines(self):
        self.refuses_all(InvalidLine, [None, True, 0, "", "run 0", {}, {"run 0": 1}, NET], lambda lines: read_desk(NET, None, lines))

    def test_errors_in_order(self):
        lines = ["wish 0 401", "run 00", "run 000"]
        self.refuses_all(InvalidLasts, [value for value in no_lasts_of(TRIANGLE) if value is not None],
                         lambda lasts: read_desk(TRIANGLE, lasts, None))
        self.refuses(Circled, {"circle": [(0, 0), (1, 1)]}, read_desk, PAIR, [0, 1], None)
        # The form of all lines comes first, then what the deeds raise, the first one of them.
        self.refuses(InvalidLine, {"given": "run 00"}, read_desk, NET, None, lines)
        self.refuses(InvalidNumber, {"given": 401}, read_desk, NET, None, lines[:1])
        self.refuses(InvalidNumber, {"given": 0}, read_desk, NET, None, ["wish 0 0"])
        self.refuses(InvalidTask, {"given": 3}, read_desk, NET, None, ["wish 3 0", "leave 2"])
        self.refuses(InvalidTask, {"given": LONG}, read_desk, NET, None, [f"run {LONG}"])
        self.refuses(InvalidTask, {"given": 10 ** 3990}, read_desk, NET, None, ["run 1" + "0" * 3990])
        self.refuses(InvalidNode, {"given": 2}, read_desk, NET, None, ["wish 0 1", "leave 2", "run 9"])
        self.refuses(InvalidNode, {"given": 7}, read_desk, NET, None, ["forget 7"])
        self.refuses(NothingLeft, {"task": 1}, read_desk, NET, None, ["wish 0 1", "run 1"])
        self.refuses(NothingLeft, {"task": 1}, read_desk, NET, None, ["wish 0 1", "strike 1"])
        self.refuses(Barred, {"nodes": [0, 1]}, read_desk, NET, None, ["wish 0 1", "wish 1 1", "wish 2 1", "wish 0 1", "run 0", "run 0"])
        self.refuses(Spoils, {"node": 0, "task": 0}, read_desk, NET, None, ["wish 1 1", "wish 2 1", "wish 0 2", "run 1"])


if __name__ == "__main__":
    unittest.main()
