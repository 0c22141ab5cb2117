"""Sessions: a desk that obeys lines of text."""

from pickaisle.desk import Desk
from pickaisle.errors import InvalidLink, InvalidPlace, NothingToRedo, NothingToUndo, PickTaken, TooLarge
from pickaisle.errors import UnknownPick, Unreachable
from pickaisle.notation import format_house, format_task, format_walk, is_number
from pickaisle.papers import least_round

# How many numbers follow the words with which a line begins.
MANY_NUMBERS = {
    "pick": 2, "drop": 2, "close up": 2, "close over": 2, "free up": 2, "free over": 2, "ends": 4,
    "undo": 0, "redo": 0, "length": 0, "walk": 0, "house": 0, "task": 0,
}


class Session:
    """A desk and what it replies to lines."""

    def __init__(self, house, task):
        self._desk = Desk(house, task)

    def obey(self, line):
        """Obey the line and return the reply."""
        words = line.split(" ")
        size = 2 if words[0] in ("close", "free") else 1
        head, rest = " ".join(words[:size]), words[size:]
        if MANY_NUMBERS.get(head) != len(rest) or not all(is_number(word) for word in rest):
            return "error command"
        numbers = [int(word) for word in rest]
        try:
            return self._reply(head, numbers)
        except InvalidPlace as wrong:
            return _row("error place", wrong.place)
        except PickTaken as taken:
            return _row("error taken", taken.place)
        except UnknownPick as unknown:
            return _row("error unknown", unknown.place)
        except InvalidLink:
            return "error link"
        except TooLarge:
            return "error large"
        except NothingToUndo:
            return "error undo"
        except NothingToRedo:
            return "error redo"

    def play(self, text):
        """Obey the lines of the text and return the list of the replies."""
        return [self.obey(line) for line in text.split("\n")]

    def _reply(self, head, numbers):
        """The reply to a line with these words and numbers."""
        if head == "length":
            length = self._desk.answer()
            return "none" if length is None else str(length)
        if head == "walk":
            return self._walk()
        if head == "house":
            return format_house(self._desk.house_now())
        if head == "task":
            return format_task(self._desk.task_now())
        self._change(head, numbers)
        return "ok"

    def _walk(self):
        """The written form of the walk of a least round, or "none"."""
        try:
            return format_walk(least_round(self._desk.house_now(), self._desk.task_now()).walk)
        except Unreachable:
            return "none"

    def _change(self, head, numbers):
        """Change the desk by a line with these words and numbers."""
        words = head.split(" ")
        match words[0]:
            case "pick":
                self._desk.put_pick(tuple(numbers))
            case "drop":
                self._desk.take_pick(tuple(numbers))
            case "close":
                self._desk.close_link((words[1], numbers[0], numbers[1]))
            case "free":
                self._desk.free_link((words[1], numbers[0], numbers[1]))
            case "ends":
                self._desk.set_ends(tuple(numbers[:2]), tuple(numbers[2:]))
            case "undo":
                self._desk.undo()
            case "redo":
                self._desk.redo()


def _row(words, place):
    """The words with the numbers of the place behind them."""
    return f"{words} {place[0]} {place[1]}"
