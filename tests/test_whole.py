"""What points 3 to 5 promise of every function and method, and the limits of point 4."""

import copy
import importlib
import inspect
import unittest

from backlinks import chains, changes, combining, counting, depths, errors, known, links, meetings, ruler, texts
from backlinks.desk import Desk
from backlinks.errors import BacklinkError
from backlinks.logs import Log, TaggedLog
from tests.plain import EXAMPLE, FLAT, GREAT, LONG, MIXED, NESTED, NOT_KNOWN, NOT_LOGS, NOT_PRICES, ONE, PAIRS, STEPS
from tests.plain import ExactCase, known_of
from tests.test_interface import INTERFACE

MODULES = [links, chains, meetings, counting, known, changes, combining, depths, ruler, texts]
PRICES = [10 ** 30 - entry for entry in range(60)]
THIRDS = {entry: entry - 1 for entry in range(1, 150, 3)}

# For each function several calls, the ones with the greatest arguments among them.
CALLS = {
    links.is_log: [(EXAMPLE,), (FLAT,), (STEPS,), ([0, 1],), (NESTED,), (GREAT,)],
    links.crossing_in: [([0, 0, 0, 1],), (EXAMPLE,), (STEPS,), ([0] * 149 + [147],)],
    links.allowed_targets: [(EXAMPLE,), (ONE,), (FLAT,), (STEPS,), (MIXED[0],)],
    chains.is_chain: [(EXAMPLE, [5, 2, 0]), (EXAMPLE, [5, 3]), (FLAT, list(range(149, -1, -1))), (ONE, NESTED)],
    chains.shortest_chain: [(EXAMPLE, 6, 1), (STEPS, 149, 0), (ONE, 0, 0), (MIXED[1], 140, 3)],
    chains.lies_on_every: [(EXAMPLE, 5, 0, 2), (FLAT, 149, 0, 70)],
    chains.avoiding_chain: [(EXAMPLE, 6, 0, 2), (PAIRS, 148, 0, 3), (STEPS, 149, 0, 70)],
    chains.count_chains: [(EXAMPLE, 5, 0), (PAIRS, 148, 0)],
    chains.nth_chain: [(EXAMPLE, 5, 0, 1), (PAIRS, 148, 0, 2 ** 74 - 1)],
    chains.chain_number: [(EXAMPLE, [5, 2, 1, 0]), (PAIRS, list(range(148, -1, -1)))],
    chains.walk_chains: [(EXAMPLE, 5, 2), (FLAT, 149, 0)],
    meetings.meeting_of: [(EXAMPLE, [5, 2, 0], [6, 5, 4, 3, 2, 1]), (FLAT, *[list(range(149, -1, -1))] * 20)],
    meetings.sure_meeting: [(EXAMPLE, 4, 0, 6, 1), (STEPS, 149, 0, 148, 1)],
    meetings.apart_chains: [(EXAMPLE, 4, 3, 6, 0), (STEPS, 149, 0, 148, 1), (STEPS, 149, 75, 74, 0)],
    counting.count_logs: [(4,), (150,)],
    counting.nth_log: [(4, 3), (150, 10 ** 80)],
    counting.log_number: [([0, 0, 1, 2],), (MIXED[2],)],
    known.are_known: [(4, {2: 0}), (150, known_of(STEPS, range(1, 150))), (150, NESTED)],
    known.known_crossing: [(4, {3: 1, 2: 0}), (150, known_of(FLAT, range(1, 150)))],
    known.count_completions: [(4, {2: 0}), (150, THIRDS)],
    known.nth_completion: [(4, {2: 0}, 1), (150, THIRDS, 10 ** 20)],
    known.completion_number: [(EXAMPLE, {2: 0}), (STEPS, THIRDS)],
    known.sure_entries: [(4, {2: 1, 3: 2}, 3, 0), (150, THIRDS, 149, 0), (150, known_of(STEPS, range(1, 150)), 149, 0)],
    known.skipping_log: [(4, {2: 1}, 3, 0, 2), (150, {}, 149, 0, 75)],
    changes.after_changes: [([0, 0, 0, 2], (2, 1), (3, 0)), (FLAT, *[(149, at) for at in (148, 0) * 10])],
    changes.changes_between: [([0, 0, 0, 2], [0, 0, 1, 1]), (FLAT, STEPS), (MIXED[0], MIXED[1])],
    changes.is_direct: [([0, 0, 0, 2], [0, 0, 1, 1], [(2, 1), (3, 1)]), (FLAT, STEPS, NESTED)],
    changes.orders_between: [([0, 0, 0, 2], [0, 0, 1, 1]), (FLAT, [0, 0] + [1] * 148)],
    combining.is_above: [([0, 0, 0, 2], [0, 0, 1, 1]), (STEPS, FLAT)],
    combining.common_up: [([0, 0, 0, 2], [0, 0, 1, 1]), LONG, (EXAMPLE,) * 20],
    combining.common_down: [([0, 0, 0, 2], [0, 0, 1, 1]), LONG, (EXAMPLE,) * 20],
    depths.depths_of: [(EXAMPLE,), (FLAT,)],
    depths.least_depth: [(1,), (150,)],
    depths.flattest_log: [(1,), (150,)],
    depths.cost_of: [([0, 0, 1, 1], [2, 3, 1, 0]), (FLAT[:60], PRICES)],
    depths.cheapest_cost: [([2, 3, 1, 0],), (PRICES,)],
    depths.cheapest_log: [([2, 3, 1, 0],), (PRICES,)],
    ruler.ruler_link: [(2, 12), (36, 10 ** 30)],
    ruler.ruler_walk: [(2, 13, 3), (36, 10 ** 30, 10 ** 29)],
    ruler.ruler_length: [(10, 10 ** 30, 0), (2, 10 ** 30, 1)],
    ruler.ruler_meeting: [(2, 13, 3, 10, 2), (2, 10 ** 30, 10 ** 29, 10 ** 29, 0)],
    texts.show_log: [([0, 0, 0, 2],), (STEPS,)],
    texts.read_log: [("0 1",), ("-",), (" ".join(["0"] * 149),)],
    texts.show_chain: [([0, 0, 0, 2], [3, 2, 0]), (FLAT, list(range(149, -1, -1)))],
    texts.read_chain: [([0, 0, 0, 2], "3>2"), (FLAT, ">".join([str(entry) for entry in range(149, -1, -1)]))],
}
# Values of all kinds, among them some near the limits of point 4.
ANY_VALUES = [
    None, True, False, 0, 1, 2, 150, -1, GREAT, -GREAT, "", "0", "a", "-" * 4000, b"", b"0", (), (0,), (1, 0), [], [0],
    [0] * 400, [[0]], {}, {1: 0}, {entry: entry for entry in range(400)}, NESTED, ({1: [(NESTED,)]},), [None], [True],
    ((0, 0), (0, 0)), {"0": 0}, {(): ()}, {True: False},
]


def result_of(function, args):
    """Returns the result of a call, as a list where it is a generator (its first 50 items)."""
    result = function(*args)
    if inspect.isgenerator(result):
        return [item for item, _ in zip(result, range(50))]
    return result


def lists_in(value):
    """Returns all lists in a value, itself included."""
    if not isinstance(value, (list, tuple)):
        return []
    return ([value] if isinstance(value, list) else []) + [found for part in value for found in lists_in(part)]


def state_of(module):
    """Returns what stands at the module level of a file."""
    return repr({name: value for name, value in vars(module).items() if not name.startswith("__")})


class EveryFunctionTest(ExactCase):
    def test_each_function_of_the_interface_is_called_here(self):
        wanted = [(file, name) for file, names in INTERFACE.items() for name in names if names[name] is not None]
        self.assertEqual(sorted((function.__module__, function.__name__) for function in CALLS), sorted(wanted))

    def test_arguments_stay_and_equal_ones_give_equal_results(self):
        for function, rows in CALLS.items():
            for args in rows:
                first = self.call(result_of, function, args)
                self.same(self.call(result_of, function, args), first)
                self.same(self.call(result_of, function, copy.deepcopy(args)), first)

    def test_results_are_new_lists(self):
        for function, rows in CALLS.items():
            for args in rows:
                first, again = result_of(function, args), result_of(function, args)
                kept = copy.deepcopy(first)
                given = [id(found) for found in lists_in(args) + lists_in(again)]
                parts = lists_in(first)
                self.assertEqual(len({id(part) for part in parts}), len(parts), function.__name__)
                for part in parts:
                    self.assertNotIn(id(part), given, function.__name__)
                    part.reverse()
                    part.append("changed")
                self.same(again, kept)
                self.same(result_of(function, args), kept)

    def test_any_value_gives_a_result_or_an_error_of_the_package(self):
        for function, rows in CALLS.items():
            for at in range(len(rows[0])):
                for value in ANY_VALUES:
                    args = list(rows[0])
                    args[at] = value
                    try:
                        self.call(result_of, function, args)
                    except BacklinkError as error:
                        self.assertIs(type(error).__base__, BacklinkError)

    def test_values_of_any_kind_in_all_places(self):
        for function, rows in CALLS.items():
            for value in ANY_VALUES + NOT_LOGS + NOT_KNOWN + NOT_PRICES:
                try:
                    self.call(result_of, function, [value] * len(rows[0]))
                except BacklinkError as error:
                    self.assertIs(type(error).__base__, BacklinkError)

    def test_they_are_quick(self):
        for function, rows in CALLS.items():
            for args in rows:
                self.is_quick(0.3, result_of, function, args)

    def test_nothing_is_kept_between_calls(self):
        for module in MODULES + [errors, importlib.import_module("backlinks.logs")]:
            before = state_of(module)
            for function, rows in CALLS.items():
                if function.__module__ == module.__name__:
                    result_of(function, rows[0])
            self.assertEqual(state_of(module), before)


class EveryMethodTest(ExactCase):
    def test_methods_take_values_of_any_kind(self):
        for value in ANY_VALUES:
            log, tagged, desk = Log(0, 0, 2), TaggedLog(0, 0, 2, tag="base"), Desk()
            for call in (log.add_entry, log.add_all, log.cut_to, tagged.add_entry, tagged.add_all, tagged.cut_to,
                         tagged.chain_to_tag, desk.execute, Log.read_from, Log, lambda tag: TaggedLog(0, tag=tag),
                         lambda tag: tagged.add_entry(0, tag=tag)):
                try:
                    self.call(call, value)
                except BacklinkError as error:
                    self.assertIs(type(error).__base__, BacklinkError)

    def test_a_call_that_raises_an_error_changes_nothing(self):
        for make in (lambda: Log(0, 0, 2), lambda: TaggedLog(0, 0, 2, tag="base")):
            for value in ANY_VALUES + [1]:
                log = make()
                for call in (log.add_entry, lambda value, log=log: log.add_all(3, value), log.cut_to):
                    before = log.all_links
                    changed = copy.deepcopy(log)
                    try:
                        self.call(call, value)
                    except BacklinkError:
                        self.same(log.all_links, before)
                        self.assertTrue(log == changed)
                    else:
                        log.undo_last()
                        self.same(log.all_links, before)

    def test_what_an_object_was_given_can_be_changed(self):
        targets = [0, 0, 2]
        log = Log(*targets)
        targets[0] = 9
        self.same(log.all_links, [0, 0, 0, 2])
        more = [3, 2, 0]
        log.add_all(*more)
        more.clear()
        self.same(log.all_links, EXAMPLE)

    def test_objects_do_not_share_anything(self):
        for links_of_one in (ONE, EXAMPLE, FLAT):
            one, other = Log(*links_of_one[1:]), Log(*links_of_one[1:])
            one.cut_to(1)
            one.add_all(0, 0)
            self.same(other.all_links, links_of_one)
            one.undo_last()
            self.same(one.all_links, [0])


if __name__ == "__main__":
    unittest.main()
