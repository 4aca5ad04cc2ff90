"""Points 2, 3, 7, 8 and 10 over all functions of the interface."""

import copy
import importlib
import inspect
import itertools
import unittest

from anytempo.allorders import order_count, order_list, sure_words
from anytempo.amounts import Amount
from anytempo.clips import can_meet, lanes, must_meet
from anytempo.edits import exchanged, reversed_sheet, stretched
from anytempo.facts import bound
from anytempo.maps import TempoMap, order_by, places
from anytempo.orders import order_map, shows_ring
from anytempo.ranges import map_with, ranges
from anytempo.relations import conflict, meets, possible, shows_conflict, shows_tree, why
from anytempo.session import Session
from anytempo.sheets import Sheet
from anytempo.texts import map_of, map_text, order_text, sheet_of, sheet_text
from reckoned import Dealer, UNITS, WORDS, fact_holds, moments_of, plain
from test_interface import METHODS, SIGNATURES
from values import Checks, lists, tuples

CUES = [("a", "start", "beats", 2), ("b", "start", "seconds", 3), ("c", "b", "beats", 1), ("d", "c", "seconds", -2)]
SHEET = Sheet(CUES)
POINTS = [(0, 0), (Amount(3, 2), 3), (4, 5)]
TEMPO = TempoMap(POINTS)
FACTS = [("order", "b", "before", "c"), ("between", "beats", "start", "b", Amount(1, 2), None),
         ("apart", "seconds", "b", "start", -3)]
CROSSED = [("between", "beats", "a", "b", 0, None), ("between", "seconds", "a", "b", None, 0)]
CLIPS = [("one", "start", "a"), ("two", "start", "b"), ("three", "b", "c")]
ORDER = order_by(SHEET, TEMPO)
TREE = meets(SHEET, CROSSED)[1]
RING = order_map(Sheet(CUES[:3]), [[0], [1], [2, 3]])

# For each function the values of its parameters; each parameter that is left out has its default value.
CALLS = {
    "is_integer": {"value": 3, "low": 1, "high": 5}, "is_name": {"value": "a1"}, "is_unit": {"value": "beats"},
    "is_word": {"value": "same"}, "other_unit": {"unit": "beats"}, "turned": {"word": "after"},
    "Amount": {"top": 3, "bottom": -6}, "is_amount": {"value": 7}, "amount_text": {"amount": Amount(3, 4)},
    "amount_of": {"text": "-3/4"}, "Sheet": {"cues": CUES}, "TempoMap": {"points": POINTS},
    "places": {"sheet": SHEET, "tempo": TEMPO}, "order_by": {"sheet": SHEET, "tempo": TEMPO},
    "is_fact": {"value": FACTS[1]},
    "holds": {"sheet": SHEET, "fact": FACTS[1], "tempo": TEMPO},
    "broken": {"sheet": SHEET, "facts": CROSSED, "tempo": TEMPO},
    "bound": {"sheet": SHEET, "unit": "beats", "one": 0, "other": 2, "facts": FACTS},
    "is_order": {"sheet": SHEET, "value": ORDER},
    "order_map": {"sheet": SHEET, "order": ORDER, "facts": FACTS},
    "shows_ring": {"sheet": Sheet(CUES[:3]), "order": [[0], [1], [2, 3]], "unit": RING[1], "steps": RING[2],
                   "facts": []},
    "possible": {"sheet": SHEET, "one": "a", "other": "d", "facts": FACTS},
    "why": {"sheet": SHEET, "one": "a", "word": "same", "other": "b", "facts": CROSSED},
    "shows_tree": {"sheet": SHEET, "one": "a", "word": "same", "other": "b", "rows": TREE, "facts": CROSSED},
    "meets": {"sheet": SHEET, "facts": CROSSED}, "shows_conflict": {"sheet": SHEET, "facts": CROSSED, "rows": TREE},
    "conflict": {"sheet": SHEET, "facts": FACTS + CROSSED}, "orders": {"sheet": SHEET, "facts": FACTS},
    "order_list": {"sheet": SHEET, "facts": FACTS, "most": 999},
    "order_count": {"sheet": SHEET, "facts": FACTS, "most": 999},
    "ranks": {"sheet": SHEET, "cue": "c", "facts": FACTS}, "can_be_first": {"sheet": SHEET, "facts": FACTS},
    "can_be_last": {"sheet": SHEET, "facts": FACTS}, "sure_words": {"sheet": SHEET, "facts": FACTS},
    "ranges": {"sheet": SHEET, "unit": "seconds", "one": "a", "other": "d", "facts": FACTS},
    "map_with": {"sheet": SHEET, "unit": "seconds", "one": "a", "other": "b", "amount": Amount(1, 3), "facts": FACTS},
    "hull": {"sheet": SHEET, "unit": "seconds", "one": "a", "other": "d", "facts": FACTS},
    "can_meet": {"sheet": SHEET, "clips": CLIPS, "facts": FACTS},
    "must_meet": {"sheet": SHEET, "clips": CLIPS, "facts": FACTS},
    "meeting": {"sheet": SHEET, "clips": CLIPS[:2], "facts": FACTS},
    "most_at_once": {"sheet": SHEET, "clips": CLIPS, "facts": FACTS},
    "lanes": {"sheet": SHEET, "clips": CLIPS, "facts": FACTS},
    "fits": {"sheet": SHEET, "clips": CLIPS, "dealt": [["one"], ["two", "three"]], "facts": FACTS},
    "is_alike": {"one": SHEET, "other": Sheet(CUES)}, "unlike": {"one": SHEET, "other": Sheet(CUES[:2])},
    "inserted": {"sheet": SHEET, "name": "e", "parent": "a", "unit": "beats", "amount": 5},
    "dropped": {"sheet": SHEET, "name": "d"},
    "renamed": {"sheet": SHEET, "name": "d", "new": "e"},
    "nudged": {"sheet": SHEET, "name": "d", "unit": "seconds", "amount": 4},
    "hung": {"sheet": SHEET, "name": "b", "parent": "start"}, "exchanged": {"sheet": SHEET},
    "reversed_sheet": {"sheet": SHEET},
    "stretched": {"sheet": SHEET, "unit": "beats", "by": 3},
    "attached": {"sheet": SHEET, "other": Sheet(CUES[:2]), "at": "d", "prefix": "x"},
    "sheet_text": {"sheet": SHEET}, "sheet_of": {"text": "cue a start beats 1"}, "fact_text": {"fact": FACTS[1]},
    "fact_of": {"text": "order a same b"}, "map_text": {"tempo": TEMPO}, "map_of": {"text": "0:0 1:3"},
    "order_text": {"sheet": SHEET, "order": ORDER}, "Session": {"sheet": SHEET},
}
STARRED = ["total", "least", "greatest"]
# These tell lists and tuples apart.
PLAIN = {"is_fact": "value", "shows_ring": "steps", "shows_tree": "rows", "shows_conflict": "rows"}


def functions():
    """All functions and classes of the interface, by name."""
    found = {}
    for file, names in SIGNATURES.items():
        module = importlib.import_module(f"anytempo.{file}")
        found.update({name: getattr(module, name) for name in names})
    return found


def shown(value):
    """What can be seen of a value: it is equal for values that are equal."""
    if isinstance(value, Sheet):
        return ("sheet", plain(value.cues()))
    if isinstance(value, TempoMap):
        return ("map", plain(value.points()))
    if isinstance(value, Session):
        return ("session", shown(value.sheet()), shown(value.facts()), value.done())
    if inspect.isgenerator(value):
        return [shown(item) for item in value]
    if isinstance(value, (list, tuple)):
        return (value.__class__.__name__, [shown(item) for item in value])
    return (value.__class__.__name__, plain(value))


def all_lists(value):
    """All lists and dicts in a value."""
    if inspect.isgenerator(value):
        value = list(value)
    found = [value] if isinstance(value, (list, dict)) else []
    if isinstance(value, (list, tuple)):
        for item in value:
            found = found + all_lists(item)
    return found


class Calls(Checks, unittest.TestCase):
    """Points 7 and 8."""

    def test_every_function_is_called(self):
        self.assertEqual(set(functions()), set(CALLS) | set(STARRED))

    def split(self, name):
        """The values by position, and those that must be passed by name."""
        kinds = inspect.signature(functions()[name]).parameters
        named = {key: value for key, value in CALLS[name].items() if kinds[key].kind is inspect.Parameter.KEYWORD_ONLY}
        return [value for key, value in CALLS[name].items() if key not in named], named

    def test_by_position_and_by_name_in_any_order(self):
        for name, call in functions().items():
            if name in STARRED:
                continue
            given, named = self.split(name)
            expected = shown(call(*given, **named))
            items = list(CALLS[name].items())
            for order in itertools.islice(itertools.permutations(items), 24):
                self.assertEqual(shown(call(**dict(order))), expected, name)
            for count in range(len(given)):
                rest = dict(items[count:])
                self.assertEqual(shown(call(*given[:count], **rest)), expected, name)
            for key in named:
                with self.assertRaises(TypeError):
                    call(*given, *named.values())
                self.assertIn(key, ["facts", "most"])

    def test_defaults(self):
        values = {"facts": [], "most": 20, "bottom": 1, "points": []}
        for name, call in functions().items():
            if name in STARRED:
                continue
            defaults = [key for key, item in inspect.signature(call).parameters.items()
                        if item.default is not item.empty]
            told = {key: value for key, value in CALLS[name].items() if key not in defaults}
            if name in ["shows_ring", "order_map"] or defaults:
                self.assertEqual(shown(call(**told, **{key: values[key] for key in defaults})), shown(call(**told)),
                                 name)

    def test_lists_for_tuples_and_tuples_for_lists(self):
        for name, call in functions().items():
            if name in STARRED:
                continue
            expected = shown(call(**CALLS[name]))
            for change in [lists, tuples, lambda value: list(tuples(value)) if isinstance(value, (list, tuple))
                           else value,
                           lambda value: tuple(lists(value)) if isinstance(value, (list, tuple)) else value]:
                told = {key: value if PLAIN.get(name) == key else change(value) for key, value in CALLS[name].items()}
                self.assertEqual(shown(call(**told)), expected, name)
            if name in PLAIN:
                told = {**CALLS[name], PLAIN[name]: lists(CALLS[name][PLAIN[name]])}
                self.assertIs(call(**told), False)

    def test_arguments_stay(self):
        for name, call in functions().items():
            if name in STARRED:
                continue
            told = {key: lists(value) if PLAIN.get(name) != key else copy.deepcopy(value) for key,
                    value in CALLS[name].items()}
            before = shown(list(told.values()))
            made = call(**told)
            if inspect.isgenerator(made):
                list(made)
            self.assertEqual(shown(list(told.values())), before, name)

    def test_results_are_new(self):
        for name, call in functions().items():
            if name in STARRED:
                continue
            told = {key: lists(value) if PLAIN.get(name) != key else copy.deepcopy(value) for key,
                    value in CALLS[name].items()}
            passed = [id(item) for value in told.values() for item in all_lists(value)]
            results = [call(**told) for _ in range(2)]
            results = [list(item) if inspect.isgenerator(item) else item for item in results]
            expected = shown(results[1])
            made = [item for result in results for item in all_lists(result)]
            found = [id(item) for item in made]
            self.assertEqual(len(set(found)), len(found), name)
            self.assertFalse(set(found) & set(passed), name)
            for item in made:
                item.clear()
            again = call(**told)
            self.assertEqual(shown(list(again) if inspect.isgenerator(again) else again), expected, name)

    def test_what_objects_received_is_copied(self):
        cues, points = lists(CUES), lists(POINTS)
        sheet, tempo = Sheet(cues), TempoMap(points)
        before = [shown(sheet), shown(tempo)]
        for told in [cues, points]:
            told[0].clear()
            told.clear()
        self.assertEqual([shown(sheet), shown(tempo)], before)

    def test_methods_tell_new_lists(self):
        session = Session(SHEET)
        session.say("fact order b before c")
        calls = [(SHEET, "names", []), (SHEET, "cues", []), (SHEET, "children", ["start"]), (SHEET, "row", ["d"]),
                 (SHEET, "between", ["a", "d"]), (SHEET, "moments", []), (SHEET, "names_at", [0]),
                 (SHEET, "line", ["beats", 0]),
                 (TEMPO, "points", []), (session, "facts", []), (session, "done", []), (session, "say", ["show"]),
                 (session, "say", ["facts"]), (session, "say", ["changes"]),
                 (session, "say_all", [["show", "show", "facts"]])]
        for thing, name, given in calls:
            first, second = getattr(thing, name)(*given), getattr(thing, name)(*given)
            expected = shown(second)
            found = [id(item) for item in all_lists(first) + all_lists(second)]
            self.assertEqual(len(set(found)), len(found), name)
            for item in all_lists(first):
                item.clear()
            self.assertEqual([shown(second), shown(getattr(thing, name)(*given))], [expected, expected])

    def test_equality(self):
        things = [Amount(1), SHEET, TEMPO, Session(SHEET)]
        for one, other in itertools.product(things, things):
            self.assertEqual(one == other, one is other)
        self.assertFalse(any(Amount(1) == value for value in [1, True, "1", None, (1, 1)]))
        self.assertTrue(Amount(2, 2) == Amount(1) and Sheet(lists(CUES)) == SHEET and TempoMap(tuple(POINTS)) == TEMPO)

    def test_listed_methods_stand_in_their_classes(self):
        self.assertIn(("session", "Session"), METHODS)
        for (file, name), methods in METHODS.items():
            kind = getattr(importlib.import_module(f"anytempo.{file}"), name)
            self.assertTrue(set(methods) <= set(vars(kind)))


class Results(Checks, unittest.TestCase):
    """Points 5 and 8: each result may be passed, and counts as one that is made anew."""

    def test_amounts_and_sheets_and_maps(self):
        dealer = Dealer(200)
        for number in range(25):
            sheet = Sheet(dealer.cues(1 + number % 8))
            facts = dealer.rigid(sheet.cues(), number % 2)
            told = meets(sheet, facts)
            if told[0] == "tree":
                self.assertIs(shows_conflict(sheet, facts, told[1]), True)
                continue
            tempo = told[1]
            self.assertEqual(TempoMap(tempo.points()), tempo)
            self.assertEqual(shown(tempo.then(tempo.inverse())), shown(TempoMap()))
            self.assertEqual(order_map(sheet, order_by(sheet, tempo), facts=facts)[0], "map")
            spots = places(sheet, tempo)
            for name in sheet.names():
                beat, second = spots[sheet.moment(name)]
                self.assertEqual([plain(tempo(beat)), plain(tempo.beat_of(second))], [plain(second), plain(beat)])
                fact = ("apart", "beats", "start", name, beat)
                self.assertEqual(meets(sheet, [*facts, fact])[0], "map")
                self.assertIsNot(map_with(sheet, "seconds", "start", name, second - tempo(0), facts=facts), None)
            for low, high in ranges(sheet, "beats", "start", sheet.names()[0], facts=facts):
                for end in [end for end in (low, high) if end is not None]:
                    longer = inserted_sheet(sheet, end)
                    self.assertEqual(longer is None or longer.cue("new")[2] == end, True)
            for order in order_list(sheet, facts=facts, most=20000)[:5]:
                self.assertEqual(order_text(sheet, order).count("<"), len(order) - 1)
                self.assertEqual(order_map(sheet, order, facts=facts)[0], "map")
            self.assertEqual(sheet_of(sheet_text(sheet)), sheet)
            self.assertEqual(TempoMap(), map_of(map_text(TempoMap())))

    def test_trees_and_rings(self):
        dealer = Dealer(201)
        seen = 0
        for number in range(40):
            cues = dealer.cues(2 + number % 5)
            sheet = Sheet(cues)
            one, other, word = dealer.dice.choice(cues)[0], "start", dealer.dice.choice(WORDS)
            word_told, told = why(sheet, one, word, other)
            if word_told == "tree":
                seen = seen + 1
                self.assertIs(shows_tree(sheet, one, word, other, told), True)
                self.assertIs(shows_tree(sheet, one, word, other, tuple(told)), False)
            order = dealer.order(len(moments_of(cues)))
            answer = order_map(sheet, order)
            if answer[0] == "ring":
                self.assertIs(shows_ring(sheet, order, *answer[1:]), True)
        self.assertGreater(seen, 8)


def inserted_sheet(sheet, amount):
    """A sheet of one cue more, or None if it has too many moments."""
    if len(sheet.moments()) > 7:
        return None
    return Sheet([*sheet.cues(), ("new", "start", "beats", amount)])


class Guarantees(Checks, unittest.TestCase):
    """Point 10."""

    def turned_facts(self, facts, way):
        """Facts after beats and seconds are exchanged, time is turned about, or all beats are multiplied by 7 / 3."""
        other = {"beats": "seconds", "seconds": "beats"}
        turn = {"before": "after", "same": "same", "after": "before"}
        found = []
        for fact in facts:
            if fact[0] == "order":
                found.append((*fact[:2], turn[fact[2]], fact[3]) if way == "reverse" else fact)
            elif way == "exchange":
                found.append((fact[0], other[fact[1]], *fact[2:]))
            elif way == "reverse":
                found.append((*fact[:4], *[None if end is None else -end for end in fact[:3:-1]]))
            else:
                by = Amount(7, 3) if fact[1] == "beats" else Amount(1)
                found.append((*fact[:4], *[None if end is None else by * end for end in fact[4:]]))
        return found

    def test_everything_stays(self):
        dealer = Dealer(202)
        turn = {"before": "after", "same": "same", "after": "before"}
        for number in range(30):
            cues = dealer.cues(2 + number % 6)
            facts = dealer.near(cues, number % 2) + dealer.rigid(cues, number // 2 % 2)
            facts = facts + [dealer.fact(cues)][:number // 4 % 2]
            sheet = Sheet(cues)
            one, other = cues[0][0], cues[-1][0]
            sheets = {"exchange": exchanged(sheet), "reverse": reversed_sheet(sheet),
                      "stretch": stretched(sheet, "beats", Amount(7, 3))}
            for way, changed in sheets.items():
                told = self.turned_facts(facts, way)
                back = way == "reverse"
                self.assertEqual(conflict(changed, told), conflict(sheet, facts))
                words = possible(sheet, one, other, facts=facts)
                expected = [turn[word] for word in words[::-1]] if back else words
                self.assertEqual(possible(changed, one, other, facts=told), expected)
                self.assertEqual(order_count(changed, facts=told, most=20000),
                                 order_count(sheet, facts=facts, most=20000))
                sure = sure_words(sheet, facts=facts)
                self.assertEqual(sure_words(changed, facts=told),
                                 [(name, turn[word], another) for name, word, another in sure] if back else sure)
                forward = [item[::2] if item[1] == "before" else item[::-2] for item in sure if item[1] != "same"]
                clips = [(f"c{index}", *pair) for index, pair in enumerate(forward[:6])]
                new = [(name, end, begin) for name, begin, end in clips] if back else clips
                for call in [can_meet, must_meet, lambda *given, **more: len(lanes(*given, **more))]:
                    self.assertEqual(call(changed, new, facts=told), call(sheet, clips, facts=facts))
            self.check_ranges(sheet, facts, one, other, sheets)

    def check_ranges(self, sheet, facts, one, other, sheets):
        for unit in UNITS:
            found = plain(ranges(sheet, unit, one, other, facts=facts))
            across = "beats" if unit == "seconds" else "seconds"
            told = plain(ranges(sheets["exchange"], across, one, other, facts=self.turned_facts(facts, "exchange")))
            self.assertEqual(told, found)
            by = plain(Amount(7, 3)) if unit == "beats" else 1
            told = plain(ranges(sheets["stretch"], unit, one, other, facts=self.turned_facts(facts, "stretch")))
            self.assertEqual(told, [tuple(None if end is None else by * end for end in span) for span in found])
            told = plain(ranges(sheets["reverse"], unit, one, other, facts=self.turned_facts(facts, "reverse")))
            turned = [tuple(None if end is None else -end for end in span[::-1]) for span in found]
            self.assertEqual(sorted(told, key=repr), sorted(turned, key=repr))

    def test_two_cues_are_the_same_exactly_if_their_rows_are(self):
        dealer = Dealer(203)
        for number in range(40):
            cues = dealer.cues(2 + number % 10)
            sheet = Sheet(cues)
            told = {(one, other) for one, word, other in sure_words(sheet) if word == "same"}
            names = sheet.names()
            expected = {(one, other) for index, one in enumerate(names) for other in names[index + 1:]
                        if sheet.same(one, other)}
            self.assertEqual(told, expected)

    def test_bounds_and_facts_by_what_is_told(self):
        for fact in FACTS:
            self.assertTrue(fact_holds(CUES, meets(SHEET, FACTS)[1].points(), fact))
        told = bound(SHEET, "beats", 0, 2, facts=FACTS)
        self.assertEqual([plain(told[0]), told[1]], [plain(Amount(1, 2)), True])


if __name__ == "__main__":
    unittest.main()
