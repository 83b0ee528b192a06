"""Known links, and those that cross."""

import unittest

from backlinks.errors import InvalidKnown, InvalidSize
from backlinks.known import are_known, known_crossing
from tests.plain import CROSSED, GREAT, LONG, NOT_KNOWN, NOT_SIZES
from tests.plain import ExactCase, all_crossings, all_known, known_crossings, known_of

MANY_CROSSING = {149: 1, 100: 98, 99: 0, 98: 0, 2: 0}


class AreKnownTest(ExactCase):
    def test_all_of_small_sizes(self):
        for size in range(1, 6):
            for known in all_known(size):
                self.gives(True, are_known, size, known)

    def test_all_single_links(self):
        for size in range(1, 6):
            for entry in range(-1, 7):
                for link in range(-2, 8):
                    wanted = 1 <= entry < size and 0 <= link < entry
                    self.gives(wanted, are_known, size, {entry: link})

    def test_no_link_and_all_links(self):
        for size in (1, 2, 149, 150):
            self.gives(True, are_known, size, {})
            for links in LONG:
                self.gives(True, are_known, size, known_of(links, range(1, size)))
                self.gives(True, are_known, size, known_of(links, range(size - 1, 0, -1)))
                self.gives(False, are_known, size, known_of(links, range(size)))
                self.gives(False, are_known, size, {**known_of(links, range(1, size)), size: 0})

    def test_links_that_cross(self):
        self.gives(True, are_known, 4, {3: 1, 2: 0})
        self.gives(True, are_known, 150, MANY_CROSSING)
        for links in CROSSED:
            self.gives(True, are_known, len(links), known_of(links, range(1, len(links))))

    def test_edges_of_entries_and_links(self):
        for size in (2, 149, 150):
            newest = size - 1
            self.gives(True, are_known, size, {newest: 0})
            self.gives(True, are_known, size, {newest: newest - 1})
            for wrong in ({newest: newest}, {newest: -1}, {newest: size}, {size: 0}, {size: newest}, {0: 0}, {-1: 0},
                          {newest: True}, {newest: False}, {True: 0}, {False: 0}, {newest: GREAT}, {GREAT: newest}):
                self.gives(False, are_known, size, wrong)
        self.gives(False, are_known, 1, {0: 0})
        self.gives(False, are_known, 1, {1: 0})

    def test_true_is_not_an_entry(self):
        self.gives(True, are_known, 3, {1: 0})
        self.gives(False, are_known, 3, {True: 0})
        self.gives(True, are_known, 3, {2: 1})
        self.gives(False, are_known, 3, {2: True})
        self.gives(False, are_known, 3, {2: False})

    def test_wrong_values(self):
        for wrong in NOT_KNOWN:
            for size in (1, 2, 7):
                self.gives(False, are_known, size, wrong)

    def test_one_wrong_item_among_many(self):
        for links in LONG:
            for at in (1, 2, 77, 149):
                for item in (None, True, False, "0", b"0", (0,), [0], {}, -1, at, 150, GREAT, -GREAT):
                    self.gives(False, are_known, 150, {**known_of(links, range(1, 150)), at: item})
            for key in (0, -1, 150, "1", None, (1,), b"\x01", GREAT):
                self.gives(False, are_known, 150, {**known_of(links, range(1, 150)), key: 0})

    def test_wrong_sizes_come_first(self):
        for value in ({}, {1: 0}, None, {True: 0}, [], {2: 0, 3: 1}):
            self.refuses_wrong_sizes(are_known, value)


class KnownCrossingTest(ExactCase):
    def test_examples(self):
        self.gives((2, 3), known_crossing, 4, {3: 1, 2: 0})

    def test_all_of_small_sizes(self):
        for size in range(1, 7):
            for known in all_known(size):
                self.gives(min(known_crossings(known), default=None), known_crossing, size, known)

    def test_the_least_of_several(self):
        self.gives((2, 149), known_crossing, 150, MANY_CROSSING)
        self.gives((2, 5), known_crossing, 6, {5: 1, 4: 2, 3: 0, 2: 0})
        self.gives((3, 5), known_crossing, 6, {5: 1, 4: 3, 3: 0})
        for links in CROSSED:
            known = known_of(links, range(len(links) - 1, 0, -1))
            self.gives(all_crossings(links)[0], known_crossing, len(links), known)

    def test_links_that_only_touch(self):
        for known in ({2: 0, 4: 2}, {4: 2, 2: 0}, {3: 0, 5: 0}, {4: 0, 3: 0, 2: 0}, {5: 0, 4: 3}, {5: 0, 4: 0, 3: 2}):
            self.gives(None, known_crossing, 6, known)

    def test_sizes_1_2_149_and_150(self):
        self.gives(None, known_crossing, 1, {})
        self.gives(None, known_crossing, 2, {})
        self.gives(None, known_crossing, 2, {1: 0})
        for links in LONG:
            for size in (149, 150):
                for entries in (range(0), range(1, size), range(size - 1, 0, -1), range(3, size, 7), [size - 1]):
                    self.gives(None, known_crossing, size, known_of(links, entries))
        self.gives((148, 149), known_crossing, 150, {149: 147, 148: 146})
        self.gives((147, 148), known_crossing, 149, {148: 146, 147: 145})
        self.gives((2, 149), known_crossing, 150, {149: 1, 2: 0})

    def test_wrong_known_links(self):
        self.refuses_wrong_known(known_crossing)

    def test_wrong_sizes_come_first(self):
        for known in ({}, {1: 0}, None, {True: 0}, [], {2: 0, 3: 1}):
            self.refuses_wrong_sizes(known_crossing, known)
        for size in NOT_SIZES:
            self.refuses(InvalidSize, known_crossing, size, size)

    def test_a_crossing_does_not_hide_a_wrong_form(self):
        for wrong in ({3: 1, 2: 0, 4: 4}, {3: 1, 2: 0, 5: 0}, {3: 1, 2: 0, True: 0}, {3: 1, 2: 0, 1: False}):
            self.refuses(InvalidKnown, known_crossing, 5, wrong)


if __name__ == "__main__":
    unittest.main()
