"""Desks: a run of a book that is told by lines what to do, and that answers by lines."""

from chargeways.audits import due
from chargeways.errors import CommandFailed, InvalidCommand, LimitError, StandError, WayError
from chargeways.numerals import is_numeral, line_from
from chargeways.runs import Run
from chargeways.texts import deed_from, line_of

# the words that ask about one number, and those that stand alone
ASKING_WORDS = ("count", "due", "home", "stock")
LONE_WORDS = ("work", "undo")

# the deeds whose answer is what the run returns
ANSWERED_DEEDS = ("group", "take", "step")


def question_from(value):
    """The list of the word and, if one stands there, the number of a command that is no deed; None if it is none."""
    if not isinstance(value, str):
        return None
    word, *numerals = value.split(" ")
    if word in LONE_WORDS:
        return [word] if numerals == [] else None
    if word not in ASKING_WORDS or len(numerals) != 1 or not is_numeral(numerals[0]):
        return None
    return [word, int(numerals[0])]


def told_home(run, thing):
    """The answer that tells the home of the thing."""
    home = run.home(thing)
    if home is None:
        return "none"
    return str(home) if run.lives(thing) else "gone"


def told_list(numbers):
    """The answer that lists these numbers."""
    return "none" if len(numbers) == 0 else line_from(numbers)


def answer(run, word, *numbers):
    """The answer of the run to a command that is no deed."""
    match word:
        case "count":
            return str(run.count(numbers[0]))
        case "due":
            return str(due(run, *numbers))
        case "home":
            return told_home(run, *numbers)
        case "stock":
            stock = run.stock(*numbers)
            return told_list([] if stock is None else stock)
        case "work":
            return told_list(run.working())
        case "undo":
            return line_of(run.undo())


class Desk:
    """A book, and a run of it, which does what commands tell."""

    def __init__(self, book):
        self._run = Run(book)

    def do(self, command):
        """Do the command; return the answer."""
        return self._answer(command, question_from(command))

    def do_all(self, *commands):
        """Do all of these commands, or none if one fails; return the list of the answers."""
        return self._answer_all([(command, question_from(command)) for command in commands])

    def attempt(self, *commands):
        """The answers that these commands would have, without any effect."""
        other = Desk(self._run.book)
        other._run = self._run.copy()
        return other.do_all(*commands)

    def log(self):
        """The list of the lines of the deeds that were done and not taken back."""
        return [line_of(deed) for deed in self._run.log()]

    @classmethod
    def from_log(cls, book, lines):
        """The desk behind the deeds of these lines."""
        desk = cls(book)
        # a question has no place in a log
        desk._answer_all([(line, None) for line in lines])
        return desk

    def _answer(self, command, question):
        """Do the command, which asks this question, or is a deed if that is None; return the answer."""
        if question is not None:
            return answer(self._run, *question)
        deed = deed_from(command)
        if deed is None:
            raise InvalidCommand(command)
        told = self._run.do(deed)
        return str(told) if deed[0] in ANSWERED_DEEDS else "done"

    def _answer_all(self, pairs):
        """Do all commands of these pairs of a command and its question, or none if one fails."""
        before = self._run.copy()
        found = []
        for position, (command, question) in enumerate(pairs):
            try:
                found.append(self._answer(command, question))
            except (WayError, StandError, LimitError) as error:
                self._run = before
                raise CommandFailed(position) from error
        return found
