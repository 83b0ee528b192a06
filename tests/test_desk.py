"""Desks and their commands."""

import random
import unittest

from backlinks.chains import count_chains, shortest_chain
from backlinks.desk import Desk
from backlinks.errors import Crossing, InvalidCommand, InvalidEntry, InvalidSize, InvalidTarget, NothingToUndo
from backlinks.logs import Log
from backlinks.meetings import sure_meeting
from backlinks.texts import show_log
from tests.growing import GrowingCase, PlainLog
from tests.plain import EXAMPLE, FLAT, GREAT, LONG, MIXED, NESTED, ONE, PAIRS, STEPS
from tests.plain import all_crossings, all_logs, small_spans
from tests.test_texts import NOT_LOG_TEXTS

# Each first word with the number of words that belong behind it.
COUNTS = {"append": 1, "cut": 1, "undo": 0, "links": 0, "size": 0, "allowed": 0, "chain": 2, "chains": 2, "meet": 4}
NOT_NUMBERS = [
    "-", "-1", "+1", "00", "01", "007", "0000000000", "1.", "1.0", "1e1", "0x1", "1_0", "a", "one", "None", "", "1,",
    "1;", "1000000000", "9999999999", "0000000001", "1" * 3990, "\u0661", "\u00b2", "\uff11", "1\n", "\n1", "1\t",
    "#1", "'1'", "\u0660", "1\u0661", "1\x00",
]
NOT_ROWS = [
    None, True, False, 0, 1, -1, GREAT, b"", b"links", b"size", b"append 0", (), ("links",), ("append", "0"), [],
    ["links"], ["append", "0"], {}, {"links": 0}, NESTED, EXAMPLE,
    "", " ", "  ", "-", "0", "1", "0 0 2", "help", "quit", "add 0", "new", "log", "Log -", "LOG -", "logs -", "log\t-",
    " log -", "log\n-", "log-", "link", "Links", "LINKS", "links ", " links", "  links", "links\n", "\nlinks",
    "links\t", "links\r", "Size", "SIZE", "sizes", "size ", "size 1", "size  ", "Undo", "undo ", "undo 1", "undo undo",
    "undo\nundo", "Allowed", "allow", "allowed ", "append", "append ", "append  0", " append 0", "append 0 ",
    "append\t0", "append 0\n", "Append 0", "APPEND 0", "appends 0", "append0", "append 0,0", "append 0 0", "append 0;",
    "append -0", "append +0", "Cut 1", "cut", "cut ", "cut  1", "cut 1 ", "cut 1 1", "cut1", "Chain 0 0", "chain",
    "chain 0", "chain 0 0 0", "chain 0  0", "chain  0 0", "chain 0 0 ", "chain 0>0", "chain 0,0", "Chains 0 0",
    "chains", "chains 0", "chains 0 0 0", "chains 0\t0", "meet", "meet 0", "meet 0 0", "meet 0 0 0", "meet 0 0 0 0 0",
    "Meet 0 0 0 0", "meet 0  0 0 0", "meet 0 0 0 0 ", "meets 0 0 0 0", "meet 0 0 0 0\n", "links links", "links size",
    "size\nlinks", "ok", "none", "links;", "links#", "l" * 4000, "links" + " " * 3995, "append " + "0" * 3993,
    "0 append", "1 cut",
]


def desk_with(links):
    """Returns a desk with this log."""
    desk = Desk()
    desk.execute(f"log {show_log(links)}")
    return desk


class DeskCase(GrowingCase):
    """Checks that the tests of this file share."""

    def answers(self, desk, row, wanted):
        """Fails unless the command has this result."""
        self.same(self.call(desk.execute, row), wanted)

    def holds(self, desk, links):
        """Fails unless the desk has this log."""
        self.answers(desk, "links", show_log(links))
        self.answers(desk, "size", str(len(links)))

    def is_none(self, desk, row):
        """Fails unless the row is not a command, and changes nothing."""
        before = desk.execute("links")
        self.refuses(InvalidCommand, desk.execute, row)
        self.answers(desk, "links", before)


class ExamplesTest(DeskCase):
    def test_examples(self):
        desk = Desk()
        self.answers(desk, "log 0 0 2 3 2", "ok")
        self.answers(desk, "append 0", "6")
        self.answers(desk, "chain 5 0", "5>2>0")
        self.answers(desk, "meet 4 3 6 0", "none")
        self.answers(desk, "links", "0 0 2 3 2 0")
        self.answers(desk, "allowed", "0 6")
        self.refuses(InvalidTarget, Desk().execute, "append 1")


class ChangingTest(DeskCase):
    def test_at_first(self):
        desk = Desk()
        self.holds(desk, ONE)
        self.answers(desk, "allowed", "0")
        self.answers(desk, "chain 0 0", "0")
        self.answers(desk, "chains 0 0", "1")
        self.answers(desk, "meet 0 0 0 0", "0")
        self.refuses(NothingToUndo, desk.execute, "undo")

    def test_log(self):
        desk = Desk()
        for links in [links for size in range(1, 7) for links in all_logs(size)] + LONG:
            self.answers(desk, f"log {show_log(links)}", "ok")
            self.holds(desk, links)
        self.answers(desk, "log -", "ok")
        self.holds(desk, ONE)

    def test_log_with_texts_that_are_none(self):
        desk = desk_with(EXAMPLE)
        for text in NOT_LOG_TEXTS:
            self.is_none(desk, f"log {text}")
            self.is_none(desk, f"log  {text}")
        self.is_none(desk, "log")
        self.is_none(desk, "log log -")
        self.holds(desk, EXAMPLE)

    def test_append(self):
        for links in LONG + [EXAMPLE]:
            desk = Desk()
            for entry in range(1, len(links)):
                self.answers(desk, f"append {links[entry]}", str(entry))
            self.holds(desk, links)

    def test_append_with_errors(self):
        desk = desk_with(EXAMPLE)
        for number in (7, 8, 150, 999999999):
            self.refuses(InvalidTarget, desk.execute, f"append {number}")
        for number, pair in [(1, (2, 7)), (2, (6, 7)), (3, (5, 7)), (4, (5, 7)), (5, (6, 7))]:
            self.crosses(pair, desk.execute, f"append {number}")
        self.holds(desk, EXAMPLE)
        self.refuses(NothingToUndo, desk.execute, "undo")
        desk = desk_with(FLAT)
        for number in (0, 1, 149, 150, 999999999):
            self.refuses(InvalidSize, desk.execute, f"append {number}")
        self.holds(desk, FLAT)

    def test_cut(self):
        for links in (EXAMPLE, FLAT, PAIRS):
            for count in range(1, len(links) + 1, 5):
                desk = desk_with(links)
                self.answers(desk, f"cut {count}", "ok")
                self.holds(desk, links[:count])
                self.answers(desk, "undo", "ok")
                self.holds(desk, links)
        desk = desk_with(EXAMPLE)
        for count in (0, 8, 9, 150, 151, 999999999):
            self.refuses(InvalidSize, desk.execute, f"cut {count}")
        self.holds(desk, EXAMPLE)

    def test_undo(self):
        desk = desk_with([0, 0, 0])
        for row in ("append 2", "cut 4", "append 3", "cut 1", "append 0"):
            desk.execute(row)
        for links in ([0], [0, 0, 0, 2, 3], [0, 0, 0, 2], [0, 0, 0, 2], [0, 0, 0]):
            self.answers(desk, "undo", "ok")
            self.holds(desk, links)
        for _ in range(2):
            self.refuses(NothingToUndo, desk.execute, "undo")
            self.holds(desk, [0, 0, 0])

    def test_a_new_log_and_undo_after_it(self):
        desk = Desk()
        desk.execute("append 0")
        desk.execute("append 1")
        self.answers(desk, "log 0 0", "ok")
        self.refuses(NothingToUndo, desk.execute, "undo")
        self.holds(desk, [0, 0, 0])
        self.answers(desk, "append 2", "3")
        self.answers(desk, "undo", "ok")
        self.refuses(NothingToUndo, desk.execute, "undo")
        self.is_none(desk, "log 0 0 1")
        self.holds(desk, [0, 0, 0])

    def test_a_refused_log_leaves_what_can_be_undone(self):
        desk = Desk()
        desk.execute("append 0")
        self.is_none(desk, "log 0 0 1")
        self.answers(desk, "undo", "ok")
        self.holds(desk, ONE)

    def test_many_commands_without_a_plan(self):
        for seed in range(15):
            chance = random.Random(seed)
            desk, plain = Desk(), PlainLog([0])
            for _ in range(150):
                number = chance.choice([0, len(plain.links) - 1, len(plain.links), chance.randrange(160)])
                name = chance.choice(["append", "append", "append", "cut", "undo", "undo"])
                if name == "append":
                    wanted = plain.add_all([number])
                    wanted = str(wanted[0]) if isinstance(wanted, list) else wanted
                elif name == "cut":
                    wanted = plain.cut(number) or "ok"
                else:
                    wanted = plain.undo() or "ok"
                row = name if name == "undo" else f"{name} {number}"
                self.same(self.outcome(desk.execute, row), wanted)
                self.answers(desk, "size", str(len(plain.links)))
            self.holds(desk, plain.links)


class AskingTest(DeskCase):
    def test_links_size_and_allowed(self):
        for links in [links for size in range(1, 7) for links in all_logs(size)] + LONG[:4]:
            desk = desk_with(links)
            self.holds(desk, links)
            allowed = [target for target in range(len(links)) if not all_crossings(links + [target])]
            self.answers(desk, "allowed", " ".join([str(target) for target in allowed]))

    def test_chain_and_chains(self):
        for links, start, end in small_spans():
            desk = desk_with(links)
            chain = [str(entry) for entry in shortest_chain(links, start, end)]
            self.answers(desk, f"chain {start} {end}", ">".join(chain))
            self.answers(desk, f"chains {start} {end}", str(count_chains(links, start, end)))

    def test_long_logs(self):
        for links in LONG:
            desk = desk_with(links)
            chain = [str(entry) for entry in shortest_chain(links, 149, 0)]
            self.answers(desk, "chain 149 0", ">".join(chain))
            self.answers(desk, "chains 149 0", str(count_chains(links, 149, 0)))
        self.answers(desk_with(PAIRS), "chains 148 0", str(2 ** 74))

    def test_meet(self):
        for links in [links for size in range(1, 5) for links in all_logs(size)] + [EXAMPLE, MIXED[0]]:
            desk = desk_with(links)
            spans = [(start, end) for start in range(len(links)) for end in range(start + 1)][:40]
            for one, other in zip(spans * 3, spans[1:] + spans[::-1] + spans):
                entry = sure_meeting(links, *one, *other)
                row = f"meet {one[0]} {one[1]} {other[0]} {other[1]}"
                self.answers(desk, row, "none" if entry is None else str(entry))

    def test_wrong_entries(self):
        desk = desk_with(EXAMPLE)
        for row in ("chain 7 0", "chain 3 4", "chain 999999999 0", "chain 0 999999999", "chains 7 0", "chains 6 7",
                    "chains 0 1", "meet 7 0 6 0", "meet 6 0 7 0", "meet 6 7 6 0", "meet 6 0 3 4", "meet 0 0 0 1"):
            self.refuses(InvalidEntry, desk.execute, row)
            self.holds(desk, EXAMPLE)

    def test_they_are_no_changes(self):
        desk = desk_with(EXAMPLE)
        for row in ("links", "size", "allowed", "chain 6 0", "chains 6 0", "meet 4 3 6 0"):
            self.answers(desk, row, desk.execute(row))
        self.refuses(NothingToUndo, desk.execute, "undo")
        self.holds(desk, EXAMPLE)


class NotCommandsTest(DeskCase):
    def test_other_rows(self):
        desk = desk_with(EXAMPLE)
        for row in NOT_ROWS:
            self.is_none(desk, row)
        self.holds(desk, EXAMPLE)

    def test_too_few_and_too_many_words(self):
        desk = desk_with(EXAMPLE)
        for name, count in COUNTS.items():
            for many in range(6):
                if many != count:
                    self.is_none(desk, " ".join([name] + ["0"] * many))

    def test_words_that_are_no_numbers(self):
        desk = desk_with(EXAMPLE)
        for name, count in COUNTS.items():
            for at in range(count):
                for wrong in NOT_NUMBERS:
                    words = ["0"] * count
                    words[at] = wrong
                    self.is_none(desk, " ".join([name] + words))

    def test_numbers_of_nine_and_ten_digits(self):
        desk = desk_with(EXAMPLE)
        for name, error in [("append", InvalidTarget), ("cut", InvalidSize)]:
            for number in ("100000000", "999999999"):
                self.refuses(error, desk.execute, f"{name} {number}")
            for number in ("1000000000", "9999999999", "0000000000", "0000000001", "000000001"):
                self.refuses(InvalidCommand, desk.execute, f"{name} {number}")
        self.refuses(InvalidEntry, desk.execute, "chain 999999999 0")
        self.refuses(InvalidCommand, desk.execute, "chain 7 0000000000")
        self.refuses(InvalidCommand, desk.execute, "chain 7 00")

    def test_what_is_no_command_is_told_before_all_else(self):
        desk = desk_with(FLAT)
        for row in ("append 999999999 0", "append -1", "cut 0 0", "undo 0", "chain 150 0150", "meet 150 0 0 00"):
            self.is_none(desk, row)

    def test_capital_letters_and_shortened_words(self):
        desk = desk_with(EXAMPLE)
        for name, count in COUNTS.items():
            for wrong in (name.upper(), name.capitalize(), name[:-1], name[1:], f"{name}s", f"{name}\t", f" {name}"):
                if wrong not in COUNTS:
                    self.is_none(desk, " ".join([wrong] + ["0"] * count))


class DesksTest(DeskCase):
    def test_two_desks_beside_each_other(self):
        one, other = Desk(), Desk()
        one.execute("append 0")
        self.holds(other, ONE)
        other.execute("log 0 0 2")
        self.holds(one, [0, 0])
        self.refuses(NothingToUndo, other.execute, "undo")
        self.answers(one, "undo", "ok")
        self.holds(other, [0, 0, 0, 2])

    def test_errors_have_their_fields(self):
        desk = desk_with([0, 0, 0])
        with self.assertRaises(Crossing) as caught:
            desk.execute("append 1")
        self.same((caught.exception.entry, caught.exception.other), (2, 3))

    def test_a_desk_does_what_a_log_does(self):
        desk, log = desk_with(STEPS), Log(*STEPS[1:])
        for row, call in [("cut 100", lambda: log.cut_to(100)), ("append 50", lambda: log.add_entry(50)),
                          ("append 50", lambda: log.add_entry(50)), ("undo", log.undo_last), ("undo", log.undo_last)]:
            desk.execute(row)
            call()
            self.holds(desk, log.all_links)

    def test_it_is_quick(self):
        for links in LONG:
            desk = desk_with(links)
            for row in ("links", "size", "allowed", "chain 149 0", "chains 149 0", "meet 149 0 148 1", "cut 149"):
                self.is_quick(0.02, desk.execute, row)
            self.is_quick(0.02, desk.execute, f"log {show_log(links)}")


if __name__ == "__main__":
    unittest.main()
