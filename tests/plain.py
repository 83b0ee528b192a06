"""What the tests share: plain searches, sample logs, wrong values, and a test case with exact checks."""

import copy
import itertools
import random
import signal
import time
import unittest

from backlinks.errors import BacklinkError, Crossing, Different, InvalidEntry, InvalidKnown, InvalidLog, InvalidSize

SECONDS = 30

GREAT = 10 ** 99
NESTED = [[[[[[[[[[[[[[[[[[[0]]]]]]]]]]]]]]]]]]]

NOT_INTEGERS = [
    None, True, False, "", "0", "1", "a", b"", b"\x00", b"1", (), (0,), (0, 0), [], [0], [1], [[1]], [0, 0, 0],
    {}, {0: 0}, {1: True}, {"0": [0]}, NESTED,
]
NOT_LISTS = [
    None, True, False, 0, 1, 2, -1, GREAT, -GREAT, "", "0", "0 0", "-", b"", b"\x00", b"\x00\x00", (), (0,), (0, 0),
    (0, 0, 0, 2), ([0],), {}, {0: 0}, {0: 0, 1: 0}, {"0": [0]},
]
# Lists that do not have the form of a log, crossing links aside.
NOT_FORMS = NOT_LISTS + [
    [], [1], [-1], [GREAT], [None], [False], [True], ["0"], [b"\x00"], [()], [[]], [[0]], [{}], NESTED,
    [0, 1], [0, -1], [0, False], [0, True], [0, None], [0, "0"], [0, [0]], [0, (0,)], [0, {0: 0}], [0, GREAT],
    [0, -GREAT], [False, 0], [1, 0], [0, 0, 2], [0, 0, True], [0, 0, 0, False], [0, 0, True, 2], [0, 0, 0, 3],
    [0, 0, 0, -1], [0, 0, 0, 0, "2"], [0, 0, 1, [2]], [[0, 0, 0, 2]], [0] * 151, [0] + list(range(150)),
    [0] * 152, [0] * 400, [0] + list(range(399)), [0] * 150 + [150], [0] * 149 + [149], [0] * 149 + [True],
    [0] * 149 + [147, 0],
]
CROSSED = [
    [0, 0, 0, 1], [0, 0, 1, 0, 2], [0, 0, 1, 2, 2, 3], [0, 0, 0, 2, 3, 2, 1], [0, 0, 0, 0, 2, 1], [0] * 149 + [147],
]
NOT_LOGS = NOT_FORMS + CROSSED
# What is not a chain of EXAMPLE.
NOT_CHAINS = NOT_LISTS + [
    [], [0, 0], [1, 1], [0, 1], [5, 6], [4, 5, 4], [2, 0, 0], [5, 2, 0, 0], [5, 2, 0, -1], [0, -1], [6, 4], [5, 3],
    [3, 1], [6, 5, 4, 3, 2, 1, 0, 0], [7], [7, 6], [7, 0], [-1], [-1, 0], [6, -1], [GREAT], [-GREAT], [6, GREAT],
    [True], [False], [1, False], [True, 0], [2, True], [6, False], [None], ["5"], ["5", "2"], [5, "2"], [b"5"],
    [5, None], [(5, 2)], [[5, 2]], [5, [2]], [{}], [5, 2, 1, 0, 1], (5, 2), (5,), {5: 2}, "52", "5>2", b"\x05\x02",
    [5] * 400,
]
NOT_SIZES = NOT_INTEGERS + [0, -1, -2, -150, 151, 152, 400, GREAT, -GREAT]
NOT_DICTS = [
    None, True, False, 0, 1, 7, GREAT, "", "{}", "1", b"", b"\x01", (), (1, 0), ((1, 0),), [], [0], [1, 0], [(1, 0)],
    [[1, 0]], [0, 0, 0], [0] * 7, [{1: 0}], ({1: 0},), NESTED,
]
# Dicts of which no size up to 7 has the form of known links, crossing links aside.
NOT_KNOWN = NOT_DICTS + [
    {0: 0}, {7: 0}, {7: 6}, {8: 0}, {150: 0}, {-1: 0}, {-1: -2}, {GREAT: 0}, {-GREAT: 0}, {True: 0}, {False: 0},
    {2: 0, True: 0}, {None: 0}, {"": 0}, {"1": 0}, {"2": "0"}, {b"\x01": 0}, {(): 0}, {(1,): 0}, {(2, 1): 0},
    {1: 1}, {2: 2}, {6: 6}, {2: 3}, {6: 7}, {1: -1}, {3: -1}, {1: False}, {2: False}, {2: True}, {3: None}, {3: ""},
    {3: "0"}, {3: b"0"}, {3: ()}, {3: (0,)}, {3: []}, {3: [0]}, {3: {}}, {3: {0: 0}}, {3: NESTED}, {3: GREAT},
    {3: -GREAT}, {1: 0, 2: 0, 3: 3}, {6: 5, 5: 5}, {5: 4, 6: True}, {4: 0, 0: 0}, {3: 1, 2: 0, 4: 4},
    {3: 1, 2: 0, 7: 0}, {3: 1, 2: 0, True: 0}, {entry: 0 for entry in range(400)}, {entry: 0 for entry in range(7)},
]

# What is not prices.
NOT_PRICES = NOT_LISTS + [
    [], [-1], [10 ** 30 + 1], [GREAT], [-GREAT], [True], [False], [None], [""], ["0"], [b"\x00"], [()], [(0,)], [[]],
    [[0]], [{}], NESTED, [0, -1], [0, True], [False, 0], [0, None, 0], [3, "3"], [[1, 2], [3]], [0, 0, 10 ** 30 + 1],
    [0] * 61, [0] * 62, [0] * 150, [0] * 400, [0] * 59 + [True], [0] * 59 + [-1], [0] * 60 + [True],
]

EXAMPLE = [0, 0, 0, 2, 3, 2, 0]
ONE = [0]
FLAT = [0] * 150
STEPS = [0] + list(range(149))
# Each even entry links two back: 2 ** 74 chains lead from entry 148 to entry 0.
PAIRS = [0, 0] + [entry - 2 if entry % 2 == 0 else entry - 1 for entry in range(2, 150)]


def mixed_log(size, seed):
    """Returns a log whose links are spread without a plan, the same one for the same seed."""
    chance = random.Random(seed)
    links, targets = [0], [0]
    while len(links) < size:
        link = chance.choice(targets[-4:])
        targets = [target for target in targets if target <= link] + [len(links)]
        links.append(link)
    return links


MIXED = [mixed_log(150, seed) for seed in (1, 2, 3)]
LONG = [FLAT, STEPS, PAIRS] + MIXED


def all_forms(size):
    """Returns all lists with the form of a log, whether links cross or not."""
    choices = [range(max(1, entry)) for entry in range(size)]
    return [list(links) for links in itertools.product(*choices)]


def all_crossings(links):
    """Returns all tuples of two entries that cross, in ascending order."""
    pairs = itertools.combinations(range(1, len(links)), 2)
    return sorted((i, j) for i, j in pairs if links[i] < links[j] < i)


def all_logs(size):
    """Returns all logs of a size."""
    return [links for links in all_forms(size) if not all_crossings(links)]


def is_above_plainly(links, other):
    """Returns whether each link of the first log is greater than or equal to the other one's."""
    return all(link >= below for link, below in zip(links, other))


def all_chains(links, start, end):
    """Returns all chains from start to end in ascending order."""
    if start == end:
        return [[start]]
    found = []
    for below in {start - 1, links[start]}:
        if below >= end:
            found += [[start] + rest for rest in all_chains(links, below, end)]
    return sorted(found)


def small_logs():
    """Returns the logs that the tests compare with plain searches."""
    return [links for size in range(1, 8) for links in all_logs(size)] + [mixed_log(13, seed) for seed in range(4)]


def small_spans():
    """Yields each small log with each start and end."""
    for links in small_logs():
        for start in range(len(links)):
            for end in range(start + 1):
                yield links, start, end


def catalan(number):
    """Returns a Catalan number, by the sum of products that makes each of them from those before it."""
    found = [1]
    while len(found) <= number:
        found.append(sum(one * other for one, other in zip(found, reversed(found))))
    return found[number]


def all_known(size):
    """Yields all known links of a size, whether they cross or not, with keys in rising and in falling order."""
    choices = [[None] + list(range(entry)) for entry in range(1, size)]
    for falling in (False, True):
        for links in itertools.product(*choices):
            known = [(entry, link) for entry, link in enumerate(links, 1) if link is not None]
            yield dict(reversed(known) if falling else known)


def known_crossings(known):
    """Returns all tuples of two entries whose known links cross, in ascending order."""
    return [(i, j) for i in sorted(known) for j in sorted(known) if i < j and known[i] < known[j] < i]


def has_links(links, known):
    """Returns whether a log has the known links."""
    return all(links[entry] == known[entry] for entry in known)


def known_of(links, entries):
    """Returns the links of some entries as known links."""
    return {entry: links[entry] for entry in entries}


def stop_waiting(number, frame):
    """Fails a test that goes on for ever, as where a program lists what must not be listed."""
    raise AssertionError(f"not done within {SECONDS} seconds")


class ExactCase(unittest.TestCase):
    """A test case that tells True from 1, looks at the arguments after each call, and ends in time."""

    def setUp(self):
        before = signal.signal(signal.SIGALRM, stop_waiting)
        self.addCleanup(signal.signal, signal.SIGALRM, before)
        self.addCleanup(signal.alarm, 0)
        signal.alarm(SECONDS)

    def call(self, function, *args):
        """Returns the result of a call, and fails if the call changed an argument."""
        before = repr(args)
        try:
            return function(*args)
        finally:
            self.assertEqual(repr(args), before, "the call changed an argument")

    def same(self, result, wanted):
        """Fails unless both have equal values of the same kinds."""
        self.assertEqual(result, wanted)
        self.assertEqual(repr(result), repr(wanted))

    def gives(self, wanted, function, *args):
        """Fails unless the call gives this result, again after its result was changed, too."""
        result = self.call(function, *args)
        self.same(result, wanted)
        parts = result if isinstance(result, tuple) else [result]
        lists = [part for part in parts if isinstance(part, list)]
        if lists:
            kept = copy.deepcopy(wanted)
            for part in lists:
                for arg in args:
                    self.assertIsNot(part, arg)
                part.append("changed")
                part.reverse()
            self.same(self.call(function, *args), kept)

    def refuses(self, error, function, *args):
        """Fails unless the call raises an error of exactly this class."""
        with self.assertRaises(BacklinkError, msg=f"{function.__name__}{args!r:.300}") as caught:
            self.call(function, *args)
        self.assertIs(type(caught.exception), error, f"{function.__name__}{args!r:.300}")

    def crosses(self, pair, function, *args):
        """Fails unless the call raises Crossing with this tuple of entries in its fields."""
        with self.assertRaises(BacklinkError, msg=f"{function.__name__}{args!r:.300}") as caught:
            self.call(function, *args)
        self.assertIs(type(caught.exception), Crossing)
        self.same((caught.exception.entry, caught.exception.other), pair)

    def is_quick(self, seconds, function, *args):
        """Fails unless the call takes at most this time when it is tried a few times."""
        times = []
        # What else the machine does makes a call slower and never quicker, so one quick call is enough.
        while len(times) < 20 and min(times, default=seconds + 1) > seconds:
            begun = time.perf_counter()
            function(*args)
            times.append(time.perf_counter() - begun)
        self.assertLessEqual(min(times), seconds, f"{function.__name__}{args!r:.300}")

    def refuses_wrong_logs(self, function, *rests):
        """Fails unless the function with a log and such further arguments refuses wrong logs before all else."""
        for wrong in NOT_LOGS:
            for rest in rests:
                self.refuses(InvalidLog, function, wrong, *rest)

    def refuses_wrong_two(self, function, *rest):
        """Fails unless the function refuses wrong logs in two places, then logs of different sizes."""
        for wrong in NOT_LOGS:
            for links in (EXAMPLE, ONE, FLAT, wrong, None):
                self.refuses(InvalidLog, function, wrong, links, *rest)
                self.refuses(InvalidLog, function, links, wrong, *rest)
        for links, other in itertools.permutations([ONE, [0, 0], [0, 0, 0], [0, 0, 1], EXAMPLE, FLAT[:149], STEPS], 2):
            if len(links) != len(other):
                self.refuses(Different, function, links, other, *rest)

    def refuses_wrong_sizes(self, function, *rest):
        """Fails unless the function with a size and such further arguments refuses wrong sizes."""
        for wrong in NOT_SIZES:
            self.refuses(InvalidSize, function, wrong, *rest)

    def refuses_wrong_known(self, function, *rest):
        """Fails unless the function with size, known links and such further arguments refuses wrong known links."""
        for size in (1, 2, 7):
            for wrong in NOT_KNOWN:
                self.refuses(InvalidKnown, function, size, wrong, *rest)
        for size in (1, 2, 3, 149, 150):
            for wrong in ({size: 0}, {size: size - 1}, {size: 0, 1: 0}, {size - 1: size - 1}, {0: 0}, {True: 0}):
                self.refuses(InvalidKnown, function, size, wrong, *rest)

    def refuses_crossings(self, function, *rest):
        """Fails unless the function with size, known links and such further arguments refuses links that cross."""
        for size, known, pair in [(4, {3: 1, 2: 0}, (2, 3)), (4, {2: 0, 3: 1}, (2, 3)), (7, {6: 2, 5: 1}, (5, 6)),
                                  (7, {6: 1, 5: 1, 3: 0, 2: 0}, (2, 5)), (150, {149: 1, 148: 0}, (148, 149)),
                                  (150, {149: 1, 100: 98, 99: 0, 98: 0, 2: 0}, (2, 149))]:
            self.crosses(pair, function, size, known, *rest)

    def refuses_wrong_spans(self, function):
        """Fails unless the function refuses wrong logs, then wrong starts, then wrong ends."""
        for wrong in NOT_LOGS:
            for start, end in [(0, 0), (1, 0), (0, 1), (None, None), (-1, "0"), (wrong, wrong)]:
                self.refuses(InvalidLog, function, wrong, start, end)
        for links in (EXAMPLE, ONE, FLAT):
            size = len(links)
            for start in NOT_INTEGERS + [-1, size, size + 1, GREAT, -GREAT]:
                for end in (0, start, None, -1):
                    self.refuses(InvalidEntry, function, links, start, end)
            for start in (0, size - 1):
                for end in NOT_INTEGERS + [-1, start + 1, size, GREAT, -GREAT]:
                    self.refuses(InvalidEntry, function, links, start, end)
        self.refuses(InvalidEntry, function, EXAMPLE, 3, 4)
        self.refuses(InvalidEntry, function, EXAMPLE, 3, 6)
        self.refuses(InvalidEntry, function, EXAMPLE, 3, True)

    def refuses_wrong_entries(self, function):
        """Fails unless the function with start, end and entry refuses wrong entries behind all else."""
        for links in (EXAMPLE, ONE, FLAT):
            size = len(links)
            for entry in NOT_INTEGERS + [-1, -size, size, size + 1, GREAT, -GREAT]:
                for start in (0, size - 1):
                    self.refuses(InvalidEntry, function, links, start, 0, entry)
        for wrong in NOT_LOGS:
            self.refuses(InvalidLog, function, wrong, 0, 0, wrong)
            self.refuses(InvalidLog, function, wrong, None, True, -1)
