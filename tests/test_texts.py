"""Texts of logs and of chains."""

import itertools
import unittest

from backlinks.errors import InvalidChain, InvalidLog, InvalidText
from backlinks.texts import read_chain, read_log, show_chain, show_log
from tests.plain import EXAMPLE, FLAT, GREAT, LONG, MIXED, NESTED, NOT_CHAINS, NOT_LOGS, ONE, STEPS
from tests.plain import ExactCase, all_chains, all_logs, small_spans

NOT_TEXTS = [
    None, True, False, 0, 1, -1, GREAT, b"", b"-", b"0", b"0 0", (), ("0",), ("0", "0"), [], ["0"], ["-"], [0], [0, 0],
    ["0 0"], {}, {"0": "0"}, {"-": 0}, NESTED, EXAMPLE, ["0", " ", "0"],
]
# Texts that are neither that of a log nor that of a chain of EXAMPLE.
NOT_ANY = [
    "", " ", "  ", "--", "- ", " -", "-0", "+0", "0 -", "- 0", "a", "0 a", "a 0", "None", "True", "[0]", "0.", "0.0",
    "00", "01", "0 00", "0 01", "0 001", "0 -0", "0 +1", "0 -1", "+0 0", "0x0", "0 0x1", "1e0", "0_0", "0 1_0", "0 1_1",
    " 0", "0 ", " 0 0", "0 0 ", "0  0", "0   0", "0\t0", "0\n0", "\n0", "0\n", "0\r", "\t0", "0,0", "0, 0", "0;0",
    "0/0", "0-0", "0> 0", "0 >0", "0 > 0", "0 0>0", ">", ">0", "0>", ">>", "0>>0", "0>0", "\u0660", "\u0660 \u0660",
    "0 \u0661", "\u00b2", "0 \u00b2", "\uff10", "0 \uff11", "0\u00a00", "0\u30000", "\u2070", "0 \u2460", "\u096a",
    "\x00", "0\x00", "0 " * 2000, "9" * 4000, "0 " + "1" * 3998, "0" * 4000, "-" * 4000, " " * 4000,
]
NOT_LOG_TEXTS = NOT_ANY + [
    "1", "2", "0 2", "1 0", "0 1 3", "0 3", "0 0 1", "0 0 3", "0 0 4", "0 1 2 4", "0 0 2 3 2 1", "0 0 2 1", "10",
    "0 150", "0 999", "0 1000", "0 99999999999", "0 0 0 0 0 0 0 0 0 0 0 0 0 0 0 0 0 " + "9" * 90, "0>0", "2>0", "5>2>0",
    " ".join(["0"] * 150), " ".join([str(link) for link in range(150)]), " ".join(["0"] * 400), "0 0 2 3 2 0 -",
]
NOT_CHAIN_TEXTS = NOT_ANY + [
    "-", "7", "7>6", "8", "10", "150", "5>6", "5>3", "0>0", "6>4", "2>2", "5>2>", ">5>2", "5>>2", "5> 2", "5 >2", "5 2",
    "5>02", "05>2", "5>+2", "5>-2", "5>2>0>0", "5>2>0>-1", "5-2", "5>2\n", "5>2 ", " 5>2", "5>\u0662", "5>2>1>a",
    "5>,2", "5->2", "5=>2", "5<2", "6>0>0", "1>0>0", "5>" + "2" * 3998, "6>5>4>3>2>1>0>" * 300, "0 0 2 3 2 0", "999",
    "1000",
]


class ShowLogTest(ExactCase):
    def test_examples(self):
        self.gives("0 0 2", show_log, [0, 0, 0, 2])
        self.gives("-", show_log, [0])

    def test_plain_texts(self):
        for links in [links for size in range(2, 8) for links in all_logs(size)] + LONG:
            self.gives(" ".join([str(link) for link in links[1:]]), show_log, links)
        self.gives("0", show_log, [0, 0])
        self.gives("0 1 2 3 4 5 6 7 8 9 10 11", show_log, STEPS[:13])

    def test_wrong_arguments(self):
        self.refuses_wrong_logs(show_log, ())


class ReadLogTest(ExactCase):
    def test_examples(self):
        self.gives([0, 0, 1], read_log, "0 1")
        self.refuses(InvalidText, read_log, "0 0 1")

    def test_what_is_shown_is_read(self):
        for links in [links for size in range(1, 8) for links in all_logs(size)] + LONG:
            self.gives(links, read_log, show_log(links))

    def test_each_log_has_exactly_one_text(self):
        # All texts of up to six of these signs: what is read is shown as it was.
        found = []
        for many in range(6):
            for signs in itertools.product("012 ->", repeat=many):
                text = "".join(signs)
                try:
                    links = read_log(text)
                except InvalidText:
                    continue
                found.append(links)
                self.same(show_log(links), text)
        for size in (1, 2, 3, 4):
            for links in all_logs(size):
                self.assertEqual(found.count(links), 1)

    def test_smallest_and_greatest_sizes(self):
        self.gives([0], read_log, "-")
        self.gives([0, 0], read_log, "0")
        for size in (149, 150):
            self.gives(FLAT[:size], read_log, " ".join(["0"] * (size - 1)))
            self.gives(STEPS[:size], read_log, " ".join([str(link) for link in range(size - 1)]))

    def test_wrong_arguments(self):
        for wrong in NOT_TEXTS + NOT_LOG_TEXTS:
            self.refuses(InvalidText, read_log, wrong)

    def test_wrong_signs_in_a_right_text(self):
        text = "0 0 2 3 2 0"
        for at in range(len(text) + 1):
            for sign in ("0", " ", "-", "+", "a", "\t", "\n", ">", "_", "\u0660", "\u00b2"):
                wrong = text[:at] + sign + text[at:]
                if wrong not in ("0 0 2 3 2 00", "0 0 2 3 20 0"):
                    self.refuses(InvalidText, read_log, wrong)


class ShowChainTest(ExactCase):
    def test_examples(self):
        self.gives("3>2>0", show_chain, [0, 0, 0, 2], [3, 2, 0])

    def test_small_logs(self):
        for links, start, end in small_spans():
            for chain in all_chains(links, start, end)[:20]:
                self.gives(">".join([str(entry) for entry in chain]), show_chain, links, chain)

    def test_one_entry_and_many(self):
        self.gives("0", show_chain, ONE, [0])
        self.gives("149", show_chain, FLAT, [149])
        down = list(range(149, -1, -1))
        for links in LONG:
            self.gives(">".join([str(entry) for entry in down]), show_chain, links, down)

    def test_wrong_arguments(self):
        for wrong in NOT_CHAINS:
            self.refuses(InvalidChain, show_chain, EXAMPLE, wrong)
        self.refuses_wrong_logs(show_chain, ([0],), ([],), (None,), ("0",), ([5, 2, 0],))


class ReadChainTest(ExactCase):
    def test_examples(self):
        self.gives([3, 2], read_chain, [0, 0, 0, 2], "3>2")

    def test_what_is_shown_is_read(self):
        for links, start, end in small_spans():
            for chain in all_chains(links, start, end)[:20]:
                self.gives(chain, read_chain, links, show_chain(links, chain))
        for links in LONG:
            down = list(range(149, -1, -1))
            self.gives(down, read_chain, links, show_chain(links, down))
        self.gives([149, 0], read_chain, FLAT, "149>0")
        self.gives([0], read_chain, ONE, "0")

    def test_each_chain_has_exactly_one_text(self):
        chains = [chain for start in range(4) for end in range(start + 1)
                  for chain in all_chains([0, 0, 0, 2], start, end)]
        found = []
        for many in range(6):
            for signs in itertools.product("0123>-", repeat=many):
                text = "".join(signs)
                try:
                    chain = read_chain([0, 0, 0, 2], text)
                except InvalidText:
                    continue
                found.append(chain)
                self.same(show_chain([0, 0, 0, 2], chain), text)
        self.assertEqual(sorted(found), sorted(chain for chain in chains if len(chain) <= 3))

    def test_a_text_of_another_log(self):
        self.gives([3, 2], read_chain, FLAT, "3>2")
        self.refuses(InvalidText, read_chain, [0, 0, 0, 0], "3>1")
        self.refuses(InvalidText, read_chain, [0, 0, 0], "3>2")
        self.refuses(InvalidText, read_chain, MIXED[0], "149>148>150")

    def test_wrong_arguments(self):
        for wrong in NOT_TEXTS + NOT_CHAIN_TEXTS:
            self.refuses(InvalidText, read_chain, EXAMPLE, wrong)
        self.refuses_wrong_logs(read_chain, ("0",), ("",), (None,), ("5>2",), ([0],), (0,))
        for wrong in NOT_LOGS:
            self.refuses(InvalidLog, read_chain, wrong, wrong)


class QuickTest(ExactCase):
    def test_they_are_quick(self):
        for links in LONG:
            self.is_quick(0.02, show_log, links)
            self.is_quick(0.02, read_log, show_log(links))


if __name__ == "__main__":
    unittest.main()
