"""The written forms of houses, tasks and walks."""

from pickaisle.errors import InvalidHouse, InvalidLink, InvalidNotation, PickTaken, TooLarge
from pickaisle.houses import House
from pickaisle.tasks import Task

MOST_DIGITS = 4
GREATEST_OF_TASK = 1000


def format_house(house):
    """Return the written form of the house."""
    lines = [_row("lengths", house.lengths), _row("gaps", house.gaps)]
    for word, aisle, height in house.closed:
        lines.append(_row(f"closed {word}", [aisle, height]))
    return "\n".join(lines)


def format_task(task):
    """Return the written form of the task."""
    lines = [_row("start", task.start), _row("end", task.end)]
    return "\n".join(lines + [_row("pick", pick) for pick in task.picks])


def format_walk(walk):
    """Return the written form of the walk."""
    return " ".join([f"{aisle}:{height}" for aisle, height in walk])


def parse_house(text):
    """Return the House that the text writes."""
    lines = text.split("\n")
    lengths = _numbers_in(lines, 1, ["lengths"])
    # Line 1 is tried alone, so that its faults are told ahead of those of line 2.
    _house_of(lengths, [], 1)
    gaps = _numbers_in(lines, 2, ["gaps"])
    house = _house_of(lengths, gaps, 2)
    for number in range(3, len(lines) + 1):
        house = _house_with_line(house, lines, number)
    return house


def parse_task(text):
    """Return the Task that the text writes."""
    lines = text.split("\n")
    start = _place_in(lines, 1, "start")
    end = _place_in(lines, 2, "end")
    task = Task(start, end, [])
    for number in range(3, len(lines) + 1):
        task = _task_with_line(task, lines, number)
    return task


def parse_walk(text):
    """Return the list of the places that the text writes."""
    walk = []
    for word in text.split(" "):
        numbers = _numbers_of(word.split(":"), 1)
        if len(numbers) != 2:
            raise InvalidNotation(1)
        walk.append((numbers[0], numbers[1]))
    return walk


def _row(head, numbers):
    """A line with a head and the numbers behind it."""
    return " ".join([head] + [str(number) for number in numbers])


def is_number(word):
    """Tell whether the word has the form of a number that is read."""
    if not word.isdigit() or len(word) > MOST_DIGITS:
        return False
    return word == "0" or not word.startswith("0")


def _numbers_of(words, number):
    """The numbers that the words of the line with this number write."""
    if not all(is_number(word) for word in words):
        raise InvalidNotation(number)
    return [int(word) for word in words]


def _numbers_in(lines, number, head):
    """The numbers behind the words of the head, in the line with this number."""
    if number > len(lines):
        raise InvalidNotation(number)
    words = lines[number - 1].split(" ")
    if words[:len(head)] != head:
        raise InvalidNotation(number)
    return _numbers_of(words[len(head):], number)


def _place_in(lines, number, word):
    """The place behind the word, in the line with this number of a task."""
    numbers = _numbers_in(lines, number, [word])
    if len(numbers) != 2 or max(numbers) > GREATEST_OF_TASK:
        raise InvalidNotation(number)
    return (numbers[0], numbers[1])


def _house_of(lengths, gaps, number):
    """The house without closed links; the line with this number is wrong if there is none."""
    try:
        return House(lengths, gaps, [])
    except InvalidHouse:
        raise InvalidNotation(number) from None


def _house_with_line(house, lines, number):
    """The house with the link closed, too, that the line with this number writes."""
    word = "over" if lines[number - 1].startswith("closed over") else "up"
    numbers = _numbers_in(lines, number, ["closed", word])
    if len(numbers) != 2:
        raise InvalidNotation(number)
    try:
        return house.with_closed((word, numbers[0], numbers[1]))
    except (InvalidLink, TooLarge):
        raise InvalidNotation(number) from None


def _task_with_line(task, lines, number):
    """The task with the pick, too, that the line with this number writes."""
    pick = _place_in(lines, number, "pick")
    try:
        return task.with_pick(pick)
    except (PickTaken, TooLarge):
        raise InvalidNotation(number) from None
