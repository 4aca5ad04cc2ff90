"""The interface: each name in the file under which it is listed, with its parameters; and the README's examples."""

import doctest
import importlib
import inspect
import pathlib
import unittest

SIGNATURES = {
    "validation": {
        "is_integer": "(value, low, high)", "is_name": "(value)", "is_unit": "(value)", "is_word": "(value)",
        "other_unit": "(unit)", "turned": "(word)",
    },
    "amounts": {
        "Amount": "(top, bottom=1)", "is_amount": "(value)", "amount_text": "(amount)", "amount_of": "(text)",
        "total": "(*amounts)", "least": "(*amounts)", "greatest": "(*amounts)",
    },
    "sheets": {"Sheet": "(cues)"},
    "maps": {"TempoMap": "(points=())", "places": "(sheet, tempo)", "order_by": "(sheet, tempo)"},
    "facts": {
        "is_fact": "(value)", "holds": "(sheet, fact, tempo)", "broken": "(sheet, facts, tempo)",
        "bound": "(sheet, unit, one, other, *, facts=())",
    },
    "orders": {
        "is_order": "(sheet, value)", "order_map": "(sheet, order, *, facts=())",
        "shows_ring": "(sheet, order, unit, steps, *, facts=())",
    },
    "relations": {
        "possible": "(sheet, one, other, *, facts=())", "why": "(sheet, one, word, other, *, facts=())",
        "shows_tree": "(sheet, one, word, other, rows, *, facts=())", "meets": "(sheet, facts)",
        "shows_conflict": "(sheet, facts, rows)", "conflict": "(sheet, facts)",
    },
    "allorders": {
        "orders": "(sheet, *, facts=())", "order_list": "(sheet, *, facts=(), most=20)",
        "order_count": "(sheet, *, facts=(), most=20)", "ranks": "(sheet, cue, *, facts=())",
        "can_be_first": "(sheet, *, facts=())", "can_be_last": "(sheet, *, facts=())",
        "sure_words": "(sheet, *, facts=())",
    },
    "ranges": {
        "ranges": "(sheet, unit, one, other, *, facts=())", "hull": "(sheet, unit, one, other, *, facts=())",
        "map_with": "(sheet, unit, one, other, amount, *, facts=())",
    },
    "clips": {
        "can_meet": "(sheet, clips, *, facts=())", "must_meet": "(sheet, clips, *, facts=())",
        "meeting": "(sheet, clips, *, facts=())", "most_at_once": "(sheet, clips, *, facts=())",
        "lanes": "(sheet, clips, *, facts=())", "fits": "(sheet, clips, dealt, *, facts=())",
    },
    "edits": {
        "is_alike": "(one, other)", "unlike": "(one, other)", "inserted": "(sheet, name, parent, unit, amount)",
        "dropped": "(sheet, name)", "renamed": "(sheet, name, new)", "nudged": "(sheet, name, unit, amount)",
        "hung": "(sheet, name, parent)", "exchanged": "(sheet)", "reversed_sheet": "(sheet)",
        "stretched": "(sheet, unit, by)", "attached": "(sheet, other, at, prefix)",
    },
    "texts": {
        "sheet_text": "(sheet)", "sheet_of": "(text)", "fact_text": "(fact)", "fact_of": "(text)",
        "map_text": "(tempo)",
        "map_of": "(text)", "order_text": "(sheet, order)",
    },
    "session": {"Session": "(sheet)"},
}
METHODS = {
    ("amounts", "Amount"): {
        "divided": "(self, other)", "compare": "(self, other)", "__add__": "(self, other)",
        "__sub__": "(self, other)", "__mul__": "(self, other)", "__neg__": "(self)", "__abs__": "(self)",
        "__eq__": "(self, other)",
    },
    ("sheets", "Sheet"): {
        "names": "(self)", "cues": "(self)", "children": "(self, name)", "cue": "(self, name)", "__len__": "(self)",
        "__contains__": "(self, value)", "__eq__": "(self, other)", "row": "(self, name)",
        "between": "(self, one, other)", "same": "(self, one, other)", "moments": "(self)",
        "names_at": "(self, number)", "moment": "(self, name)", "distance": "(self, unit, one, other)",
        "line": "(self, unit, number)",
    },
    ("maps", "TempoMap"): {
        "__call__": "(self, beat)", "beat_of": "(self, second)", "pace": "(self, beat)", "points": "(self)",
        "inverse": "(self)", "then": "(self, other)", "__eq__": "(self, other)",
    },
    ("session", "Session"): {
        "sheet": "(self)", "facts": "(self)", "done": "(self)", "__len__": "(self)", "say": "(self, line)",
        "say_all": "(self, lines)",
    },
}
README = pathlib.Path(__file__).resolve().parent.parent / "README.md"


class Interface(unittest.TestCase):
    def test_names_stand_in_their_files(self):
        for file, names in SIGNATURES.items():
            module = importlib.import_module(f"anytempo.{file}")
            for name, signature in names.items():
                item = getattr(module, name)
                self.assertEqual(item.__module__, f"anytempo.{file}", name)
                self.assertEqual(str(inspect.signature(item)), signature, name)

    def test_methods_stand_in_their_classes(self):
        for (file, name), methods in METHODS.items():
            kind = getattr(importlib.import_module(f"anytempo.{file}"), name)
            for method, signature in methods.items():
                self.assertEqual(str(inspect.signature(vars(kind)[method])), signature, method)

    def test_exceptions_stand_in_their_file(self):
        errors = importlib.import_module("anytempo.errors")
        for item in vars(errors).values():
            if inspect.isclass(item):
                self.assertEqual(item.__module__, "anytempo.errors")

    def test_examples_of_the_readme(self):
        told = doctest.testfile(str(README), module_relative=False)
        self.assertGreater(told.attempted, 0)
        self.assertEqual(told.failed, 0)


if __name__ == "__main__":
    unittest.main()
