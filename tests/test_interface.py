"""The names and arguments of the interface, each defined in the file that lists it."""

import importlib
import inspect
import unittest

FUNCTIONS = {
    "cutweave.nets": {"net_text": ["net"], "read_net": ["text"]},
    "cutweave.worlds": {"start": ["net"], "owner": ["net", "deed"], "possible": ["net", "world"],
                        "done": ["net", "world", "deed"]},
    "cutweave.runs": {"played": ["net", "deeds"]},
    "cutweave.histories": {"history": ["net", "deeds"], "is_history": ["net", "told"],
                           "same_history": ["net", "deeds", "others"], "least_run": ["net", "told"]},
    "cutweave.clocks": {"clocks": ["net", "told"], "ahead": ["net", "told", "one", "other"]},
    "cutweave.cuts": {"is_cut": ["net", "told", "cut"], "world_at": ["net", "told", "cut"],
                      "run_through": ["net", "told", "cut"]},
    "cutweave.lattice": {"met": ["one", "other"], "joined": ["one", "other"], "least_over": ["net", "told", "bound"],
                         "greatest_within": ["net", "told", "bound"], "steps_up": ["net", "told", "cut"],
                         "steps_down": ["net", "told", "cut"], "all_cuts": ["net", "told"], "count_cuts": ["net", "told"],
                         "level": ["net", "told", "many"], "primes": ["net", "told"], "parts": ["net", "told", "cut"],
                         "chain_count": ["net", "told"]},
    "cutweave.markers": {"marked": ["net", "happenings"]},
    "cutweave.colours": {"coloured": ["net", "happenings"]},
    "cutweave.claims": {"claim_text": ["net", "claim"], "read_claim": ["net", "text"], "holds": ["net", "claim", "world"]},
    "cutweave.ways": {"possibly": ["net", "told", "claim"], "definitely": ["net", "told", "claim"],
                      "avoiding": ["net", "told", "claim"]},
    "cutweave.papers": {"some_paper": ["net", "told", "claim"], "none_paper": ["net", "told", "claim"],
                        "avoid_paper": ["net", "told", "claim"], "always_paper": ["net", "told", "claim"]},
    "cutweave.checking": {"paper_holds": ["net", "told", "claim", "paper"]},
    "cutweave.stable": {"still": ["net", "world"], "ended": ["net", "world"], "amount": ["net", "weights", "world"],
                        "keeps": ["net", "weights"], "lost_amount": ["net", "told", "cut", "weights"]},
    "cutweave.rollback": {"line": ["net", "told", "checkpoints", "failed"], "domino": ["net", "told", "checkpoints", "failed"],
                          "logged_line": ["net", "told", "checkpoints", "logs", "failed"]},
    "cutweave.keeping": {"local_state": ["net", "told", "process", "many"], "replayed": ["net", "process", "state", "deeds"],
                         "resent": ["net", "told", "cut"], "resumed": ["net", "told", "cut", "deeds"]},
    "cutweave.garbage": {"floor": ["net", "told", "checkpoints"], "droppable": ["net", "told", "checkpoints"],
                         "open_messages": ["net", "told", "checkpoints"]},
    "cutweave.desk": {"replayed_desk": ["net", "log"]},
}
CLASSES = {
    "cutweave.errors": {"BadValue": ["at"], "BadNet": ["at"], "BadStep": ["at"], "BadCut": ["at"], "BadClaim": ["at"],
                        "BadPaper": ["at"], "BadLine": ["at"], "TooMany": ["word"], "NothingThere": ["name"]},
    "cutweave.nets": {"Net": ["processes", "channels", "rules"]},
    "cutweave.desk": {"Desk": ["net"]},
}
METHODS = {"Desk": {"tell": ["self", "line"], "log": ["self"]}}


class Interface(unittest.TestCase):

    def test_names_and_arguments(self):
        for table, is_kind in ((FUNCTIONS, inspect.isfunction), (CLASSES, inspect.isclass)):
            for module, names in table.items():
                for name, arguments in names.items():
                    found = getattr(importlib.import_module(module), name)
                    self.assertTrue(is_kind(found), name)
                    self.assertEqual(found.__module__, module, name)
                    self.assertEqual(list(inspect.signature(found).parameters), arguments, name)
                    for method, needs in METHODS.get(name, {}).items():
                        self.assertEqual(list(inspect.signature(vars(found)[method]).parameters), needs, method)


if __name__ == "__main__":
    unittest.main()
