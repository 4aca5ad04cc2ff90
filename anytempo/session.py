"""Sessions: a sheet and facts about it, changed and asked by commands."""

from anytempo.changes import CHANGES
from anytempo.commands import read
from anytempo.errors import InvalidCommand, InvalidPart, NothingToUndo
from anytempo.questions import QUESTIONS
from anytempo.sheets import check_sheet
from anytempo.validation import is_listing


class Session:
    """Works on a sheet and on facts that hold by some tempo map.

    A state is a tuple (sheet, facts, lines) with the lines of the changes in effect; a state never changes.
    """

    def __init__(self, sheet):
        check_sheet(sheet)
        self._state = (sheet, [], [])
        self._earlier = []
        self._undone = []

    def __len__(self):
        return len(self._state[2])

    def sheet(self):
        """The present sheet."""
        return self._state[0]

    def facts(self):
        """The present facts."""
        return list(self._state[1])

    def done(self):
        """The lines of all changes in effect, the oldest one first."""
        return list(self._state[2])

    def say(self, line):
        """Performs a command; returns a list of strings, the answer to a question."""
        word, told = read(line)
        if word == "undo":
            self._swap(self._earlier, self._undone)
            return []
        if word == "redo":
            self._swap(self._undone, self._earlier)
            return []
        state, answer = _performed(self._state, line, word, told)
        self._take(state)
        return answer

    def say_all(self, lines):
        """Performs commands as one change; returns the list of their answers."""
        if not is_listing(lines):
            raise InvalidPart(lines)
        for item in lines:
            if isinstance(item, str) and item in ("undo", "redo"):
                raise InvalidCommand(item)
        state = self._state
        answers = []
        for line in lines:
            word, told = read(line)
            state, answer = _performed(state, line, word, told)
            answers.append(answer)
        self._take(state)
        return answers

    def _take(self, state):
        """Goes on with a state, which is a new one if it has more lines."""
        if len(state[2]) > len(self._state[2]):
            self._earlier.append(self._state)
            self._undone.clear()
            self._state = state

    def _swap(self, source, target):
        """Goes back to the state that was put into the source last, and puts the present one into the target."""
        if len(source) == 0:
            raise NothingToUndo()
        target.append(self._state)
        self._state = source.pop()


def _performed(state, line, word, told):
    """The state behind a command, and the answer."""
    sheet, facts, lines = state
    if word in CHANGES:
        change = CHANGES[word]
        new_sheet, new_facts = change(sheet, facts, told)
        return (new_sheet, new_facts, lines + [line]), []
    question = QUESTIONS[word]
    return state, question(sheet, facts, lines, told)
