"""A shell that works on a crossing by commands."""

from lanerules.bounds import HISTORY
from lanerules.commands import answer_of
from lanerules.errors import (Absent, BadBatch, BadCount, BadDay, BadRow, BadRule, BadText, BadWish, BadWord, Busy,
                              Empty, Impossible, NoCar, NoCount, NoHistory, NoIndex, NoLane, NoOrder, NoPair,
                              NoPreference, NoRule, NoVersion, NothingToUndo, OtherLanes, OtherOrder, PassError,
                              PassedOver, Rejected, TooLarge, TooManyEdits)


def answer_or_crossing_error(crossing, command):
    """The answer, or the name of the error if one is raised that crossings know."""
    try:
        return answer_of(crossing, command)
    except Absent:
        return "error Absent"
    except BadBatch:
        return "error BadBatch"
    except BadRule:
        return "error BadRule"
    except Busy:
        return "error Busy"
    except Empty:
        return "error Empty"
    except NoCar:
        return "error NoCar"
    except NoCount:
        return "error NoCount"
    except NoLane:
        return "error NoLane"
    except NoVersion:
        return "error NoVersion"
    except NothingToUndo:
        return "error NothingToUndo"
    except OtherLanes:
        return "error OtherLanes"
    except PassedOver:
        return "error PassedOver"
    except Rejected:
        return "error Rejected"
    except TooLarge:
        return "error TooLarge"
    except TooManyEdits:
        return "error TooManyEdits"


def answer_or_error(crossing, command):
    """The answer, or the name of the error if one of this package is raised."""
    try:
        return answer_or_crossing_error(crossing, command)
    except BadCount:
        return "error BadCount"
    except BadDay:
        return "error BadDay"
    except BadRow:
        return "error BadRow"
    except BadText:
        return "error BadText"
    except BadWish:
        return "error BadWish"
    except BadWord:
        return "error BadWord"
    except Impossible:
        return "error Impossible"
    except NoHistory:
        return "error NoHistory"
    except NoIndex:
        return "error NoIndex"
    except NoOrder:
        return "error NoOrder"
    except NoPair:
        return "error NoPair"
    except NoPreference:
        return "error NoPreference"
    except NoRule:
        return "error NoRule"
    except OtherOrder:
        return "error OtherOrder"
    except PassError:
        return "error PassError"


def answer_to(crossing, value):
    """The answer of the shell to any value."""
    answer = answer_or_error(crossing, value) if isinstance(value, str) else None
    return "unknown command" if answer is None else answer


class Shell:
    """A shell on a crossing, which keeps its last commands and answers."""

    WORDS = ("come", "go", "change", "undo", "rule", "row", "waiting", "passed", "possible", "history", "bound")

    def __init__(self, crossing):
        self.crossing = crossing
        self.said = ()

    @classmethod
    def fed(cls, crossing, *commands):
        """A shell on this crossing that has executed these commands."""
        made = cls(crossing)
        for command in commands:
            made.execute(command)
        return made

    @property
    def last(self):
        """The last command and its answer, None before the first command."""
        return self.said[-1] if len(self.said) > 0 else None

    def __call__(self, value):
        return self.execute(value)

    def execute(self, value):
        """Do what the command says, and return the answer."""
        answer = answer_to(self.crossing, value)
        command = value if isinstance(value, str) else None
        said = (*self.said, (command, answer))
        self.said = said[-HISTORY:]
        return answer

    def transcript(self):
        """The tuple of the last commands and answers, the oldest first."""
        return self.said
