"""Questions about a sheet, facts about it and the lines of the changes made; each answer is a list of strings."""

from anytempo.allorders import order_list, sure_words
from anytempo.ranges import ranges
from anytempo.relations import meets, possible
from anytempo.texts import fact_text, limit_text, map_text, order_text, sheet_text


def _show(sheet, facts, lines, told):
    """The lines of the text of the sheet."""
    return sheet_text(sheet).split("\n") if len(sheet) > 0 else []


def _facts(sheet, facts, lines, told):
    """The texts of the facts."""
    return [fact_text(fact) for fact in facts]


def _changes(sheet, facts, lines, told):
    """The lines of the changes."""
    return list(lines)


def _relation(sheet, facts, lines, told):
    """The possible words of two cues."""
    return [" ".join(possible(sheet, *told, facts=facts))]


def _range(sheet, facts, lines, told):
    """The ranges from one cue to another one."""
    return [f"{limit_text(low)} {limit_text(high)}" for low, high in ranges(sheet, *told, facts=facts)]


def _orders(sheet, facts, lines, told):
    """The texts of the possible orders."""
    return [order_text(sheet, order) for order in order_list(sheet, facts=facts, most=told[0])]


def _sure(sheet, facts, lines, told):
    """The words that are sure of each two cues."""
    return [" ".join(words) for words in sure_words(sheet, facts=facts)]


def _tempo(sheet, facts, lines, told):
    """The text of a tempo map by which all facts hold."""
    # The facts of a session can hold together, so that meets tells a map.
    return [map_text(meets(sheet, facts)[1])]


QUESTIONS = {
    "show": _show,
    "facts": _facts,
    "changes": _changes,
    "relation": _relation,
    "range": _range,
    "orders": _orders,
    "sure": _sure,
    "tempo": _tempo,
}
