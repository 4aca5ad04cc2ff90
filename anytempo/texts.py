"""Texts of sheets, facts, tempo maps and orders."""

from anytempo.amounts import amount_of, amount_text
from anytempo.errors import InvalidFact, InvalidLine, InvalidOrder, InvalidString
from anytempo.facts import has_form, names_of
from anytempo.maps import TempoMap, check_map
from anytempo.orders import is_order
from anytempo.sheets import START, Sheet, check_sheet
from anytempo.validation import is_listing, is_name, is_unit, is_word

NO_LIMIT = "-"


def sheet_text(sheet):
    """A sheet as lines, one for each cue."""
    check_sheet(sheet)
    return "\n".join([f"cue {name} {parent} {unit} {amount_text(amount)}"
                      for name, parent, unit, amount in sheet.cues()])


def sheet_of(text):
    """The sheet that lines represent."""
    if not isinstance(text, str):
        raise InvalidString(text)
    cues = []
    for index, line in enumerate([] if text == "" else text.split("\n")):
        cue = _cue_of(line.split(" "))
        if cue is None:
            raise InvalidLine(index)
        cues.append(cue)
    return Sheet(cues)


def _cue_of(words):
    """The told cue that the words of a line represent, or None."""
    if len(words) != 5 or words[0] != "cue":
        return None
    name, parent, unit = words[1:4]
    amount = amount_of(words[4])
    if not is_name(name) or not is_name(parent) or not is_unit(unit) or amount is None:
        return None
    return (name, parent, unit, amount)


def limit_text(limit):
    """An amount or None as a string."""
    return NO_LIMIT if limit is None else amount_text(limit)


def fact_text(fact):
    """A fact as a string."""
    if not is_listing(fact) or not has_form(fact) or not all([is_name(name) for name in names_of(fact)]):
        raise InvalidFact(fact)
    return " ".join([*fact[:4], *[limit_text(limit) for limit in fact[4:]]])


def fact_of(text):
    """The fact that a string represents."""
    fact = read_fact(text) if isinstance(text, str) else None
    if fact is None:
        raise InvalidString(text)
    return fact


def read_fact(text):
    """The fact that a string represents, or None."""
    words = text.split(" ")
    if words[0] == "order" and len(words) == 4:
        fits = is_name(words[1]) and is_word(words[2]) and is_name(words[3])
        return tuple(words) if fits else None
    if (words[0], len(words)) not in [("apart", 5), ("between", 6)]:
        return None
    if not is_unit(words[1]) or not is_name(words[2]) or not is_name(words[3]):
        return None
    limits = [amount_of(word) for word in words[4:]]
    for word, limit in zip(words[4:], limits):
        if limit is None and (words[0] == "apart" or word != NO_LIMIT):
            return None
    return (*words[:4], *limits)


def map_text(tempo):
    """A tempo map as a string of points."""
    check_map(tempo)
    return " ".join([f"{amount_text(beat)}:{amount_text(second)}" for beat, second in tempo.points()])


def map_of(text):
    """The tempo map that a string of points represents."""
    if not isinstance(text, str):
        raise InvalidString(text)
    points = [tuple([amount_of(part) for part in word.split(":")]) for word in text.split(" ")]
    if not all([len(point) == 2 and None not in point for point in points]):
        raise InvalidString(text)
    return TempoMap(points)


def order_text(sheet, order):
    """An order of a sheet as a string of the names of the cues."""
    if not is_order(sheet, order):
        raise InvalidOrder(order)
    names = [START] + sheet.names()
    groups = [[name for name in names if sheet.moment(name) in group] for group in order]
    return " < ".join([" = ".join(group) for group in groups])
