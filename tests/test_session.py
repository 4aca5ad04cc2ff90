"""Points 121 to 126, and points 5, 7, 8, 9 and 10 as far as they speak of sessions."""

import unittest

from anytempo.allorders import order_list, sure_words
from anytempo.amounts import Amount, amount_of, amount_text
from anytempo.edits import dropped, exchanged, hung, inserted, nudged, renamed, reversed_sheet, stretched
from anytempo.errors import (
    CueError, Duplicate, HasChildren, InvalidAmount, InvalidCommand, InvalidInteger, InvalidPart, InvalidSheet,
    MissingError,
    NoShift, NotPossible, NothingToUndo, StateError, TooMany, UnknownCue, UnknownFact,
)
from anytempo.facts import broken
from anytempo.ranges import ranges
from anytempo.relations import conflict, meets, possible
from anytempo.session import Session
from anytempo.sheets import Sheet
from anytempo.texts import fact_of, fact_text, map_of, order_text, sheet_of, sheet_text
from reckoned import Dealer, NAMES, UNITS, WORDS, fact_holds, plain
from test_texts import fact_fits, is_name, is_number
from values import Checks, all_values, values_without

TEXT = "cue a start beats 2\ncue b start seconds 3"
OTHER = {"beats": "seconds", "seconds": "beats"}
TURN = {"before": "after", "same": "same", "after": "before"}
KINDS = {
    "insert": "NNUA", "drop": "N", "rename": "NN", "nudge": "NUA", "hang": "NN", "exchange": "", "reverse": "",
    "stretch": "UA", "forget": "I", "show": "", "facts": "", "changes": "", "relation": "NN", "range": "UNN",
    "orders": "I", "sure": "", "tempo": "", "undo": "", "redo": "",
}
CHANGES = ["insert", "drop", "rename", "nudge", "hang", "exchange", "reverse", "stretch", "fact", "forget"]


def line_fits(line):
    """Whether a line has one of the forms of a command, by an own reading."""
    words = line.split(" ")
    if words[0] == "fact":
        return fact_fits(line[5:]) and line[4:5] == " "
    if words[0] not in KINDS or len(words) - 1 != len(KINDS[words[0]]):
        return False
    checks = {"N": is_name, "U": UNITS.__contains__, "A": is_number,
              "I": [str(number) for number in range(100)].__contains__}
    return all(checks[kind](word) for kind, word in zip(KINDS[words[0]], words[1:]))


class Model:
    """What a session does, by the functions of the earlier stages."""

    def __init__(self, sheet):
        self.state = (sheet, [], [])
        self.before, self.behind = [], []

    def say(self, line):
        word = line.split(" ")[0]
        if word in ["undo", "redo"]:
            taken, put = (self.before, self.behind) if word == "undo" else (self.behind, self.before)
            if not taken:
                raise NothingToUndo()
            put.append(self.state)
            self.state = taken.pop()
            return []
        state, answer = self.performed(self.state, line)
        self.take(state)
        return answer

    def say_all(self, lines):
        state, answers = self.state, []
        for line in lines:
            state, answer = self.performed(state, line)
            answers.append(answer)
        self.take(state)
        return answers

    def take(self, state):
        if len(state[2]) != len(self.state[2]):
            self.before.append(self.state)
            self.behind = []
            self.state = state

    def performed(self, state, line):
        sheet, facts, lines = state
        word, *told = line.split(" ")
        if word not in CHANGES:
            return state, self.answer(state, word, told)
        sheet, facts = self.changed(sheet, facts, word, told)
        if word in ["insert", "nudge", "hang", "fact"] and conflict(sheet, facts) is not None:
            raise NotPossible(conflict(sheet, facts))
        return (sheet, facts, [*lines, line]), []

    def changed(self, sheet, facts, word, told):
        if word == "insert":
            return inserted(sheet, *told[:3], amount_of(told[3])), facts
        if word == "drop":
            made = dropped(sheet, told[0])
            about = [index for index, fact in enumerate(facts) if told[0] in fact_text(fact).split(" ")]
            if about:
                raise UnknownFact(about[0])
            return made, facts
        if word == "rename":
            return renamed(sheet, *told), [self.mapped(fact, lambda name: told[1] if name == told[0] else name)
                                           for fact in facts]
        if word == "nudge":
            return nudged(sheet, *told[:2], amount_of(told[2])), facts
        if word == "hang":
            return hung(sheet, *told), facts
        if word == "exchange":
            return exchanged(sheet), [tuple(OTHER.get(item, item) if index == 1 and fact[0] != "order" else item
                                            for index, item in enumerate(fact)) for fact in facts]
        if word == "reverse":
            return reversed_sheet(sheet), [self.turned(fact) for fact in facts]
        if word == "stretch":
            made = stretched(sheet, told[0], amount_of(told[1]))
            return made, [tuple(item * amount_of(told[1]) if isinstance(item, Amount) and fact[1] == told[0] else item
                                for item in fact) for fact in facts]
        if word == "fact":
            fact = fact_of(" ".join(told))
            conflict(sheet, [fact])
            if len(facts) > 5:
                raise TooMany(6)
            return sheet, [*facts, fact]
        if int(told[0]) >= len(facts):
            raise UnknownFact(int(told[0]))
        return sheet, [fact for index, fact in enumerate(facts) if index != int(told[0])]

    def mapped(self, fact, call):
        places = (1, 3) if fact[0] == "order" else (2, 3)
        return tuple(call(item) if index in places else item for index, item in enumerate(fact))

    def turned(self, fact):
        if fact[0] == "order":
            return (*fact[:2], TURN[fact[2]], fact[3])
        return (*fact[:4], *[None if item is None else -item for item in fact[:3:-1]])

    def answer(self, state, word, told):
        sheet, facts, lines = state
        if word == "show":
            return sheet_text(sheet).splitlines()
        if word in ["facts", "changes"]:
            return [fact_text(fact) for fact in facts] if word == "facts" else lines
        if word == "relation":
            return [" ".join(possible(sheet, *told, facts=facts))]
        if word == "range":
            return [" ".join("-" if end is None else amount_text(end) for end in span)
                    for span in ranges(sheet, *told, facts=facts)]
        if word == "orders":
            return [order_text(sheet, order) for order in order_list(sheet, facts=facts, most=int(told[0]))]
        if word == "sure":
            return [" ".join(item) for item in sure_words(sheet, facts=facts)]
        return None


class Lines:
    """Draws command lines."""

    def __init__(self, seed):
        self.dealer = Dealer(seed)

    def line(self, sheet, words):
        dice, names = self.dealer.dice, ["start", *sheet.names(), *sheet.names(), *NAMES[:4]]
        word = dice.choice(words)
        if word == "fact":
            if sheet.names() and dice.random() < 0.9:
                make = dice.choice([self.dealer.fact, lambda cues: self.dealer.near(cues, 1)[0]])
                return "fact " + fact_text(make(sheet.cues()))
            return "fact order a before c"
        made = {"N": lambda: dice.choice(names), "U": lambda: dice.choice(UNITS),
                "A": lambda: dice.choice(["1", "2", "-1", "1/2", "0", "-3/2", "5"]),
                "I": lambda: dice.choice(["0", "1", "2", "20", "99"])}
        return " ".join([word, *[made[kind]() for kind in KINDS[word]]])


class Sessions(Checks):
    """Checks of sessions; mixed into test cases."""

    def seen(self, session):
        """All that can be seen of a session's state."""
        return [session.sheet().cues(), session.facts(), session.done(), len(session), session.say("show"),
                session.say("facts"),
                session.say("changes")]

    def check_state(self, session, model):
        sheet, facts, lines = model.state
        self.assertEqual(session.sheet(), sheet)
        self.assertEqual([plain(session.facts()), session.done(), len(session)], [plain(facts), lines, len(lines)])
        self.assertTrue(all(item is None or item.__class__ in (str, Amount) for fact in session.facts()
                            for item in fact))
        self.assertEqual(meets(sheet, session.facts())[0], "map")

    def check_both(self, session, model, name, argument):
        """The session and the model answer the same, or raise the same; returns the exception's class or None."""
        before = self.seen(session)
        try:
            expected = getattr(model, name)(argument)
        except (CueError, MissingError, StateError) as error:
            told = self.raised(error.__class__, getattr(session, name), argument)
            self.assertEqual(plain(list(vars(told).values())), plain(list(vars(error).values())))
            self.assertEqual(self.seen(session), before)
            return error.__class__
        told = getattr(session, name)(argument)
        answers = zip(told, expected, strict=True) if name == "say_all" else [(told, expected)]
        for item, other in answers:
            if other is None:
                tempo = self.check_tempo(item)
                if name == "say" and tempo is not None:
                    self.assertEqual(broken(session.sheet(), session.facts(), tempo), [])
            else:
                self.assertEqual(item, other)
        return None

    def check_tempo(self, answer):
        """An answer is the text of a map, which is read unless its numbers are long."""
        self.assertEqual(len(answer), 1)
        return map_of(answer[0]) if all(map(is_number, answer[0].replace(":", " ").split(" "))) else None


class Answers(Sessions, unittest.TestCase):
    """Points 10 and 121 to 126."""

    def test_example_of_the_document(self):
        session = Session(sheet_of(TEXT))
        self.assertEqual([session.say("relation a b"), session.say("fact order a before b"),
                          session.say("relation a b"),
                          session.say("range seconds start a")], [["before same after"], [], ["before"], ["0 3"]])
        self.assertEqual([session.say("undo"), session.say("facts"), len(session)], [[], [], 0])

    def test_drawn_lines(self):
        raised = []
        for seed in range(14):
            lines = Lines(1200 + seed)
            sheet = Sheet(lines.dealer.cues(seed % 6))
            session, model = Session(sheet), Model(sheet)
            for _ in range(60):
                line = lines.line(model.state[0], [*KINDS, *CHANGES, "fact", "insert"])
                raised.append(self.check_both(session, model, "say", line))
                self.check_state(session, model)
            self.check_undo(session, model)
        expected = {None, UnknownCue, UnknownFact, NotPossible, NothingToUndo, Duplicate, HasChildren, NoShift, TooMany,
                    InvalidAmount, InvalidInteger}
        self.assertEqual(set(raised), expected)

    def check_undo(self, session, model):
        """Undo and redo to both ends come through the same states."""
        while model.behind:
            self.assertIs(self.check_both(session, model, "say", "redo"), None)
        states = [self.seen(session)]
        while model.before:
            self.assertIs(self.check_both(session, model, "say", "undo"), None)
            self.check_state(session, model)
            states.append(self.seen(session))
        self.assertEqual(self.check_both(session, model, "say", "undo"), NothingToUndo)
        self.assertEqual(len(session), 0)
        for state in states[-2::-1]:
            session.say("redo")
            model.say("redo")
            self.assertEqual(self.seen(session), state)
        self.assertEqual(self.check_both(session, model, "say", "redo"), NothingToUndo)

    def test_drawn_blocks(self):
        raised = []
        for seed in range(10):
            lines = Lines(1300 + seed)
            sheet = Sheet(lines.dealer.cues(1 + seed % 4))
            session, model = Session(sheet), Model(sheet)
            words = [word for word in [*KINDS, *CHANGES] if word not in ["undo", "redo"]]
            for _ in range(30):
                if lines.dealer.dice.random() < 0.3:
                    self.check_both(session, model, "say", lines.dealer.dice.choice(["undo", "redo"]))
                made = [lines.line(model.state[0], words) for _ in range(lines.dealer.dice.randint(0, 3))]
                made = made if lines.dealer.dice.random() < 0.5 else tuple(made)
                raised.append(self.check_both(session, model, "say_all", made))
                self.check_state(session, model)
            self.check_undo(session, model)
        self.assertTrue(len(set(raised)) > 4 and raised.count(None) > 80)

    def test_blocks_and_single_commands(self):
        lines = Lines(1400)
        for number in range(20):
            sheet = Sheet(lines.dealer.cues(2 + number % 4))
            single, made = Session(sheet), []
            while len(made) < 6:
                line = lines.line(single.sheet(), CHANGES)
                try:
                    single.say(line)
                except (CueError, MissingError, StateError):
                    continue
                made.append(line)
            block = Session(sheet)
            self.assertEqual(block.say_all(made), [[]] * 6)
            self.assertEqual(self.seen(block), self.seen(single))
            self.assertEqual(self.seen(block)[2], made)
            # What is in effect, said again, comes to the same state.
            again = Session(sheet)
            self.assertEqual([again.say(line) for line in block.done()], [[]] * 6)
            self.assertEqual(self.seen(again), self.seen(single))
            self.assertEqual([block.say("undo"), len(block), block.sheet()], [[], 0, sheet])
            self.assertEqual([block.say("redo"), block.done()], [[], made])
            single.say("undo")
            self.assertEqual(len(single), 5)


class Changes(Sessions, unittest.TestCase):
    """Points 123, 124 and 125, command by command."""

    def session(self, *lines):
        session = Session(sheet_of(TEXT))
        for line in lines:
            self.assertEqual(session.say(line), [])
        return session

    def test_each_change_of_the_sheet(self):
        for line, shown in [
                ("insert c a seconds -1/2", [*TEXT.split("\n"), "cue c a seconds -1/2"]),
                ("drop b", TEXT.split("\n")[:1]),
                ("rename a z", ["cue z start beats 2", "cue b start seconds 3"]),
                ("nudge b seconds 4/6", ["cue a start beats 2", "cue b start seconds 11/3"]),
                ("hang b start", TEXT.split("\n")), ("exchange", ["cue a start seconds 2", "cue b start beats 3"]),
                ("reverse", ["cue a start beats -2", "cue b start seconds -3"]),
                ("stretch seconds 1/2", ["cue a start beats 2", "cue b start seconds 3/2"])]:
            session = self.session(line)
            self.assertEqual([session.say("show"), session.done(), session.say("changes")], [shown, [line], [line]])

    def test_facts_change_along(self):
        facts = ["order a before b", "apart seconds a b 2", "between beats start b 1 -",
                 "between seconds start a -1/2 5"]
        for line, expected in [
                ("rename b z", ["order a before z", "apart seconds a z 2", "between beats start z 1 -", facts[3]]),
                ("exchange", [facts[0], "apart beats a b 2", "between seconds start b 1 -",
                              "between beats start a -1/2 5"]),
                ("reverse", ["order a after b", "apart seconds a b -2", "between beats start b - -1",
                             "between seconds start a -5 1/2"]),
                ("stretch seconds 3", [facts[0], "apart seconds a b 6", facts[2], "between seconds start a -3/2 15"]),
                ("stretch beats 2/3", [facts[0], facts[1], "between beats start b 2/3 -", facts[3]]),
                ("insert c b beats 1", facts), ("hang b start", facts), ("nudge b seconds 1", facts)]:
            session = self.session(*[f"fact {fact}" for fact in facts])
            self.assertEqual(session.say("facts"), facts)
            self.assertEqual(session.say(line), [])
            self.assertEqual(session.say("facts"), expected)
            self.assertEqual(meets(session.sheet(), session.facts())[0], "map")
            self.assertEqual([session.say("undo"), session.say("facts")], [[], facts])
        session = self.session("fact order a same b")
        session.say("reverse")
        self.assertEqual(session.say("facts"), ["order a same b"])

    def test_dropped_cues_with_facts(self):
        session = self.session("insert c b beats 1", "fact order start before a", "fact apart beats c start -4",
                               "fact order a before c")
        self.assertEqual(self.raised(UnknownFact, session.say, "drop c").index, 1)
        self.assertEqual(self.raised(UnknownFact, session.say, "drop a").index, 0)
        self.assertEqual(self.raised(HasChildren, session.say, "drop b").label, "b")
        self.assertEqual(self.raised(UnknownCue, session.say, "drop start").label, "start")
        for line in ["forget 1", "forget 1", "drop c", "drop b"]:
            self.assertEqual(session.say(line), [])
        self.assertEqual([session.say("facts"), session.say("show")],
                         [["order start before a"], ["cue a start beats 2"]])

    def test_not_possible(self):
        session = self.session("fact between beats start b 1 2", "fact order start before a")
        before = self.seen(session)
        for line, indices in [("fact order b same a", [0, 2]), ("fact order b after a", [0, 2]),
                              ("fact apart seconds start b 4", [2]),
                              ("fact order a before start", [2]), ("nudge a beats -2", [1]),
                              ("nudge b seconds -3", [0]),
                              ("fact between beats b a 0 0", [2])]:
            self.assertEqual(self.raised(NotPossible, session.say, line).indices, indices)
            self.assertEqual(self.seen(session), before)
        session.say("nudge a beats -3/2")
        session.say("insert c a beats 1/4")
        session.say("fact order c before b")
        self.assertEqual(self.raised(NotPossible, session.say, "nudge c beats 5/4").indices, [0, 2])
        self.assertEqual(session.say("nudge c beats 1"), [])

    def test_no_more_than_six_facts(self):
        session = self.session(*["fact order start before a"] * 6)
        self.assertEqual(self.raised(TooMany, session.say, "fact order start before a").most, 6)
        self.assertEqual(self.raised(TooMany, session.say, "fact order start after a").most, 6)
        self.assertEqual(self.raised(UnknownCue, session.say, "fact order start after x").label, "x")
        self.assertEqual(self.raised(UnknownFact, session.say, "forget 6").index, 6)
        session.say("forget 5")
        self.assertEqual(self.raised(NotPossible, session.say, "fact order start after a").indices, [5])
        self.assertEqual(len(session.facts()), 5)

    def test_what_commands_raise(self):
        session = self.session("insert c a seconds 1")
        for line, kind, field, value in [
                ("insert a x beats 1", Duplicate, "label", "a"),
                ("insert start a beats 1", Duplicate, "label", "start"),
                ("insert d x beats 1", UnknownCue, "label", "x"), ("drop x", UnknownCue, "label", "x"),
                ("drop a", HasChildren, "label", "a"), ("rename x y", UnknownCue, "label", "x"),
                ("rename start y", UnknownCue, "label", "start"), ("rename a start", Duplicate, "label", "start"),
                ("rename a c", Duplicate, "label", "c"), ("nudge x beats 1", UnknownCue, "label", "x"),
                ("nudge c beats 1", NoShift, "label", "c"), ("hang a c", UnknownCue, "label", "c"),
                ("hang c start", NoShift, "label", "c"), ("hang start a", UnknownCue, "label", "start"),
                ("stretch beats 0", InvalidAmount, "value", Amount(0)),
                ("stretch beats -1/2", InvalidAmount, "value", Amount(-1, 2)),
                ("fact order x before y", UnknownCue, "label", "x"),
                ("fact apart beats a y 1", UnknownCue, "label", "y"),
                ("forget 0", UnknownFact, "index", 0), ("forget 99", UnknownFact, "index", 99),
                ("relation x a", UnknownCue, "label", "x"), ("relation a x", UnknownCue, "label", "x"),
                ("range beats x y", UnknownCue, "label", "x"), ("range beats start y", UnknownCue, "label", "y"),
                ("orders 0", InvalidInteger, "value", 0), ("orders 1", TooMany, "most", 1),
                ("orders 4", TooMany, "most", 4)]:
            before = self.seen(session)
            self.assertEqual(getattr(self.raised(kind, session.say, line), field), value, line)
            self.assertEqual(self.raised(kind, session.say_all, ["insert z a beats 9", line]).__class__, kind)
            self.assertEqual(self.seen(session), before)
        session = Session(Sheet([("abcdefg"[index], "start", "beats", index + 1) for index in range(7)]))
        self.assertEqual(self.raised(TooMany, session.say, "insert x start seconds 1").most, 8)
        self.assertEqual(session.say("insert x start beats 7/1"), [])

    def test_questions(self):
        session = self.session("fact order a before b")
        before = self.seen(session)
        for line, expected in [
                ("show", TEXT.split("\n")), ("facts", ["order a before b"]), ("changes", ["fact order a before b"]),
                ("relation a b", ["before"]), ("relation b a", ["after"]), ("relation start start", ["same"]),
                ("range seconds start a", ["0 3"]), ("range beats a b", ["0 -"]), ("range beats b a", ["- 0"]),
                ("range beats start a", ["2 2"]), ("orders 1", ["start < a < b"]), ("orders 99", ["start < a < b"]),
                ("sure", ["a before b"])]:
            self.assertEqual(session.say(line), expected)
        tempo = map_of(session.say("tempo")[0])
        self.assertEqual(broken(session.sheet(), session.facts(), tempo), [])
        self.assertTrue(fact_holds(session.sheet().cues(), tempo.points(), ("order", "a", "before", "b")))
        self.assertEqual(self.seen(session), before)
        session.say("forget 0")
        self.assertEqual(session.say("orders 3"), ["start < a = b", "start < a < b", "start < b < a"])
        self.assertEqual(session.say("relation a b"), ["before same after"])
        self.assertEqual(session.say("sure"), [])
        empty = Session(Sheet([]))
        self.assertEqual([empty.say(word) for word in ["show", "facts", "changes", "sure"]], [[]] * 4)
        self.assertEqual([empty.say("orders 1"), empty.say("relation start start"),
                          empty.say("range beats start start"),
                          empty.say("tempo")], [["start"], ["same"], ["0 0"], ["0:0"]])

    def test_undo_and_redo(self):
        session = Session(sheet_of(TEXT))
        for line in ["undo", "redo"]:
            self.raised(NothingToUndo, session.say, line)
        session.say("exchange")
        session.say("exchange")
        self.assertEqual(session.done(), ["exchange", "exchange"])
        self.raised(NothingToUndo, session.say, "redo")
        session.say("undo")
        # A question and a refused command leave what can be performed again.
        session.say("show")
        session.say_all(["show", "facts"])
        session.say_all([])
        self.raised(UnknownCue, session.say, "drop x")
        self.raised(UnknownCue, session.say_all, ["exchange", "drop x"])
        self.raised(InvalidCommand, session.say, "no command")
        self.assertEqual(session.say("redo"), [])
        self.assertEqual(len(session), 2)
        session.say("undo")
        session.say("undo")
        self.assertEqual(len(session), 0)
        session.say("reverse")
        self.raised(NothingToUndo, session.say, "redo")
        self.assertEqual(session.done(), ["reverse"])
        session.say("undo")
        session.say("redo")
        self.assertEqual(session.done(), ["reverse"])
        # A change that leaves everything as it is counts as well.
        session.say("rename a a")
        session.say("stretch beats 1")
        self.assertEqual([len(session), session.done()[1:]], [3, ["rename a a", "stretch beats 1"]])

    def test_blocks(self):
        session = Session(sheet_of(TEXT))
        told = session.say_all(["changes", "insert c b beats 1", "changes", "fact order a before b", "changes",
                                "relation a b", "facts"])
        self.assertEqual(told, [[], [], ["insert c b beats 1"], [], ["insert c b beats 1", "fact order a before b"],
                                ["before"],
                                ["order a before b"]])
        self.assertEqual(len(session), 2)
        session.say("undo")
        self.assertEqual([len(session), session.sheet(), session.facts()], [0, sheet_of(TEXT), []])
        session.say("redo")
        self.assertEqual(session.done(), ["insert c b beats 1", "fact order a before b"])
        self.assertEqual(session.say_all(()), [])
        self.assertEqual(session.say_all(lines=("show",)), [[*TEXT.split("\n"), "cue c b beats 1"]])

    def test_a_hundred_changes(self):
        session = Session(sheet_of(TEXT))
        lines = ["exchange", "reverse", "nudge a seconds 1", "nudge a seconds -1", "rename a z", "rename z a",
                 "reverse", "exchange",
                 "stretch beats 2/3", "stretch beats 3/2"] * 10
        session.say("fact between seconds a b 1/7 99")
        for line in lines[:2]:
            session.say(line)
        session.say("undo")
        session.say("undo")
        for line in ["exchange", "reverse", "rename a z", "rename z a", "reverse", "exchange", "stretch beats 7/3",
                     "stretch beats 3/7"] * 12:
            session.say(line)
        self.assertEqual([len(session), session.say("show"), session.say("facts")],
                         [97, TEXT.split("\n"), ["between seconds a b 1/7 99"]])
        for _ in range(97):
            session.say("undo")
        self.raised(NothingToUndo, session.say, "undo")
        for _ in range(97):
            session.say("redo")
        self.assertEqual(len(session), 97)


class Passed(Sessions, unittest.TestCase):
    """Points 7, 8, 9, 121, 122 and 126."""

    def test_wrong_sheets(self):
        for value in values_without(Sheet):
            self.check_raises(InvalidSheet, "value", value, Session, value)
        self.assertEqual(len(Session(sheet=Sheet([]))), 0)

    def test_lines_of_other_forms(self):
        session = Session(sheet_of(TEXT))
        before = self.seen(session)
        good = ["insert c a beats 1/2", "drop a", "rename a c", "nudge a beats -1", "hang b start", "exchange",
                "stretch seconds 2",
                "fact order a before b", "fact between beats a b - 1", "forget 0", "show", "relation a start",
                "range beats a b", "orders 20", "undo"]
        count = 0
        for line in good:
            words = line.split(" ")
            wrong = [line + " ", " " + line, line + "\n", line.replace(" ", "  ", 1) + " x" * (" " not in line),
                     line + " a",
                     line.upper(), line[1:], line[:-1] + "A"]
            wrong = wrong + [" ".join(words[:index] + words[index + 1:]) for index in range(len(words))]
            wrong = wrong + [" ".join(words[:index + 1] + words[index:]) for index in range(len(words))]
            wrong = wrong + [" ".join(words[:index] + [put] + words[index + 1:]) for index in range(len(words))
                             for put in ["", "-", "A", "1a", "01", "-0", "100", "ninechars", "beats2", "1/0", "x y"]]
            for each in wrong:
                if not line_fits(each):
                    count = count + 1
                    self.check_raises(InvalidCommand, "value", each, session.say, each)
                    self.check_raises(InvalidCommand, "value", each, session.say_all, ["exchange", each, "no command"])
        self.assertGreater(count, 500)
        for value in all_values():
            self.check_raises(InvalidCommand, "value", value, session.say, value)
            self.check_raises(InvalidCommand, "value", value, session.say_all, ["exchange", value])
        for line in ["", " ", "Show", "show me", "fact", "fact ", "fact order a before", "forget -1", "forget 100",
                     "forget 00",
                     "forget 1/1", "orders", "orders x", "orders 020", "insert c a beats", "insert C a beats 1",
                     "insert c a beat 1",
                     "insert c a beats +1", "insert c a beats 1234567", "quit", "undo undo", "redo 1", "stretch beats",
                     "range a b beats", "relation a before b", "tempo 1", "sure a", "changes 1", "done", "forget \n1"]:
            self.check_raises(InvalidCommand, "value", line, session.say, line)
        self.assertEqual(self.seen(session), before)

    def test_forms_come_before_all_other_exceptions(self):
        session = Session(sheet_of(TEXT))
        self.assertEqual(session.say("orders 99")[:1], ["start < a = b"])
        for line in ["insert a x beats 1 1", "insert a x beat 1", "drop 1", "forget 7 7", "orders 0 0",
                     "stretch beats 0 0",
                     "stretch beat 0", "nudge x beats", "fact order x before", "redo redo"]:
            self.check_raises(InvalidCommand, "value", line, session.say, line)

    def test_blocks_with_undo_and_redo(self):
        session = Session(sheet_of(TEXT))
        session.say("exchange")
        before = self.seen(session)
        for word in ["undo", "redo"]:
            item = "".join(list(word))
            for lines in [[item], ["drop x", item], ["no command", "reverse", item, "undo"], ("show", item),
                          [None, item]]:
                self.check_raises(InvalidCommand, "value", item, session.say_all, lines)
        self.check_raises(InvalidCommand, "value", "undo ", session.say_all, ["undo "])
        self.check_raises(InvalidCommand, "value", "no command", session.say_all, ["no command", "drop x"])
        self.assertEqual(self.raised(UnknownCue, session.say_all, ["drop x", "no command"]).label, "x")
        for value in values_without(list, tuple):
            self.check_raises(InvalidPart, "value", value, session.say_all, value)
        self.assertEqual(self.seen(session), before)

    def test_results_are_new_and_lists_stay(self):
        session = Session(sheet_of(TEXT))
        lines = ["fact order a before b", "changes", "show", "insert c a beats 1"]
        told = session.say_all(lines)
        self.assertEqual(lines, ["fact order a before b", "changes", "show", "insert c a beats 1"])
        lines.clear()
        for each in [*told, told, session.facts(), session.done(), session.say("show"), session.say("changes"),
                     session.say("facts")]:
            each.clear()
        self.assertEqual([len(session), len(session.facts()), len(session.say("show")), len(session.say("changes"))],
                         [2, 1, 3, 2])
        found = [session.facts(), session.facts(), session.done(), session.done(), session.say("changes"),
                 session.say("changes"),
                 *session.say_all(["changes", "changes", "show", "facts"])]
        self.assertEqual(len({id(item) for item in found}), len(found))

    def test_sessions_are_different_objects(self):
        one, other = Session(Sheet([])), Session(Sheet([]))
        self.assertFalse(one == other)
        self.assertTrue(one == one)
        sheet = sheet_of(TEXT)
        first, second = Session(sheet), Session(sheet)
        first.say("exchange")
        self.assertEqual([len(first), len(second), second.sheet(), sheet], [1, 0, sheet, sheet_of(TEXT)])


if __name__ == "__main__":
    unittest.main()
