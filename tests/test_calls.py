"""What point [1] says of all calls alike."""

import copy
import importlib
import inspect
import random
import sys
import unittest

import samples
import test_interface
import test_markers
import trials
from cutweave.histories import history
from cutweave.lattice import all_cuts
from cutweave.worlds import done

FOUR = samples.FOUR
DEEDS = trials.random_run(FOUR, random.Random(1), 60)
TOLD = history(FOUR, DEEDS)
WHOLE = tuple(map(len, TOLD))
WORLD = trials.world_behind(FOUR, DEEDS)
FEW = history(FOUR, DEEDS[:25])
CLAIM = ("not", ("and", ("state", 0, 1), ("or", ("count", 1, "<", 5), ("tokens", 3, 6, ">", 0))))
TEXT = "not (state p = 1 and (count d < 5 or tokens f 6 > 0))"
DEEP_TEXT = "(" * 15 + "state p = 1" + " or state p = 1)" * 15
BEGINS = (("begin", 0, 0), ("begin", 1, 2))
# What holds in no world, and in all.
NOWHERE = ("state", 0, 9)
EVERYWHERE = ("not", NOWHERE)
PAPER = "none\n" + "".join(f"cut {one} {other}\n" for one, other in sorted(all_cuts(FOUR, FEW)))
WEIGHTS = (((1, 2), (3, 4, 5)), tuple(range(10)))
KEPT = tuple((0, 3, len(row)) for row in FEW)

# For each function of the interface whose arguments are tuples throughout, beside nets, some arguments.
CALLS = {
    "worlds": {"start": [()], "owner": [(DEEDS[0],)], "possible": [(WORLD,)], "done": [(trials.world_behind(FOUR, DEEDS[:9]), DEEDS[9])]},
    "nets": {"net_text": [()]},
    "runs": {"played": [(DEEDS,), ((),)]},
    "histories": {"history": [(DEEDS,)], "is_history": [(TOLD,), (TOLD[:1],)], "same_history": [(DEEDS, DEEDS), (DEEDS, ())],
                  "least_run": [(TOLD,)]},
    "clocks": {"clocks": [(TOLD,)], "ahead": [(TOLD, (0, 0), (1, 5)), (TOLD, (1, 5), (0, 0))]},
    "cuts": {"is_cut": [(TOLD, WHOLE), (TOLD, (0, WHOLE[1]))], "world_at": [(TOLD, WHOLE)], "run_through": [(TOLD, WHOLE)]},
    "lattice": {"met": [((1, 2), (2, 1))], "joined": [((1, 2), (2, 1))], "least_over": [(TOLD, (0, WHOLE[1]))],
                "greatest_within": [(TOLD, (0, WHOLE[1]))], "steps_up": [(TOLD, (0, 0))], "steps_down": [(TOLD, WHOLE)],
                "all_cuts": [(FEW,)], "count_cuts": [(FEW,)], "level": [(FEW, 9)], "primes": [(TOLD,)], "parts": [(TOLD, WHOLE)],
                "chain_count": [(FEW,)]},
    "colours": {"coloured": [(BEGINS + DEEDS,)]},
    "claims": {"claim_text": [(CLAIM,)], "read_claim": [(TEXT,), (DEEP_TEXT,)], "holds": [(CLAIM, WORLD)]},
    "ways": {"possibly": [(FEW, CLAIM)], "definitely": [(FEW, CLAIM)], "avoiding": [(FEW, CLAIM), (FEW, NOWHERE)]},
    "papers": {"some_paper": [(FEW, CLAIM)], "none_paper": [(FEW, NOWHERE)], "avoid_paper": [(FEW, NOWHERE)],
               "always_paper": [(FEW, EVERYWHERE)]},
    "checking": {"paper_holds": [(FEW, NOWHERE, PAPER), (FEW, EVERYWHERE, "always\n")]},
    "stable": {"still": [(WORLD,)], "ended": [(WORLD,)], "amount": [(WEIGHTS, WORLD)], "keeps": [(WEIGHTS,)],
               "lost_amount": [(TOLD, WHOLE, WEIGHTS)]},
    "rollback": {"line": [(FEW, KEPT, (1, 0)), (FEW, ((0,), (0,)), (0,))], "domino": [(FEW, KEPT, (1,)), (FEW, ((0,), (0, 2)), (0,))],
                 "logged_line": [(FEW, ((0,), (0, 2)), (2, 2), (0,))]},
    "keeping": {"local_state": [(TOLD, 1, 3)], "replayed": [(1, 0, TOLD[1])], "resent": [(TOLD, WHOLE)],
                "resumed": [(FEW, (0, 0), DEEDS[:25])]},
    "garbage": {"floor": [(FEW, KEPT)], "droppable": [(FEW, KEPT)], "open_messages": [(FEW, ((0,), (0, 2)))]},
}
WITHOUT_A_NET = ("met", "joined")


def all_calls():
    """Each function of the table with each of its rows of arguments, and marked in a net of its own."""
    for module, names in CALLS.items():
        for name, rows in names.items():
            for row in rows:
                function = getattr(importlib.import_module(f"cutweave.{module}"), name)
                yield function, row if name in WITHOUT_A_NET else (FOUR, *row)
    marked = importlib.import_module("cutweave.markers").marked
    yield marked, (test_markers.TRIO, test_markers.random_happenings(test_markers.TRIO, random.Random(1), 60))


def listed(arguments):
    return [samples.listed(value) for value in arguments]


def is_told_kind(value):
    """Whether the value is of tuples, integers, strings, None, True and False only."""
    if isinstance(value, tuple):
        return all(is_told_kind(part) for part in value)
    return value is None or type(value) in (int, str, bool)


class Calls(unittest.TestCase):

    def test_the_table_has_all_functions(self):
        told = {(function.__module__, function.__name__) for function, _ in all_calls()}
        listed_ones = {(module, name) for module, names in test_interface.FUNCTIONS.items() for name in names}
        self.assertEqual(listed_ones - told, {("cutweave.nets", "read_net"), ("cutweave.desk", "replayed_desk")})

    def test_by_position_and_by_name(self):
        for function, arguments in all_calls():
            names = list(inspect.signature(function).parameters)
            self.assertEqual(function(**dict(zip(names[::-1], arguments[::-1]))), function(*arguments), function)

    def test_asked_twice(self):
        for function, arguments in all_calls():
            self.assertEqual(function(*arguments), function(*copy.deepcopy(arguments)), function)

    def test_lists_are_taken_and_stay_as_they_were(self):
        for function, arguments in all_calls():
            lists = listed(arguments)
            told = function(*lists)
            self.assertEqual(told, function(*arguments), function)
            self.assertTrue(is_told_kind(told), function)
            self.assertEqual(lists, listed(arguments), function)

    def test_later_changes_have_no_effect(self):
        for function, arguments in all_calls():
            lists = listed(arguments)
            told = function(*lists)
            for value in lists:
                self.spoil(value)
            self.assertEqual(told, function(*arguments), function)

    def spoil(self, value):
        if isinstance(value, list):
            for part in value:
                self.spoil(part)
            value[:] = [None] * (len(value) + 1)

    def test_nets_stay_as_they_were(self):
        for function, arguments in all_calls():
            net = arguments[0]
            before = copy.deepcopy(vars(net)) if hasattr(net, "rules") else None
            function(*arguments)
            self.assertEqual(vars(net) if hasattr(net, "rules") else None, before, function)

    def test_no_deep_calls(self):
        kept = sys.getrecursionlimit()
        try:
            sys.setrecursionlimit(len(inspect.stack(0)) + 200)
            for function, arguments in all_calls():
                function(*arguments)
        finally:
            sys.setrecursionlimit(kept)


if __name__ == "__main__":
    unittest.main()
