"""Papers, which show that no round is shorter, and least rounds with their papers."""

from pickaisle.errors import InvalidPaper
from pickaisle.euler import walk_of
from pickaisle.kinds import DONE, NONE, is_kind, kind_of
from pickaisle.least import least_plan
from pickaisle.plans import check_plan, plan_length
from pickaisle.tables import kinds_ahead, lengths_from, table_from
from pickaisle.tasks import check_task


class Round:
    """A round with its length and a paper that shows that no round is shorter."""

    def __init__(self, walk, length, paper):
        self.walk = list(walk)
        self.length = length
        self.paper = [{kind: numbers[kind] for kind in numbers} for numbers in paper]


def paper_for(house, task):
    """Return the paper with the least lengths of the rows of steps that lead to each kind."""
    return lengths_from(house, task)


def is_paper(house, task, paper):
    """Tell whether the list of dicts is right."""
    check_task(house, task)
    if len(paper) != house.aisles + 1 or paper[0] != {NONE: 0}:
        return False
    heights = len(house.crosses())
    if not all(is_kind(heights, kind) for numbers in paper for kind in numbers):
        return False
    return all(_is_right_at(house, task, aisle, paper[aisle], paper[aisle + 1]) for aisle in range(house.aisles))


def check_paper(house, task, paper, length):
    """Tell whether the paper shows the length, or for None that there is no round."""
    if not is_paper(house, task, paper):
        return False
    if length is None:
        return DONE not in paper[-1]
    return DONE in paper[-1] and paper[-1][DONE] >= length


def gives(house, task, paper, plan):
    """Return the list of the gives of the plan, aisle by aisle."""
    if not is_paper(house, task, paper):
        raise InvalidPaper("the paper is not right")
    check_plan(house, task, plan)
    kinds = [NONE] + [kind_of(house, task, plan, gap) for gap in range(house.aisles - 1)] + [DONE]
    numbers = [paper[at][kind] for at, kind in enumerate(kinds)]
    found = []
    for aisle in range(house.aisles):
        length = plan_length(house, {link: number for link, number in plan.items() if link[1] == aisle})
        found.append(numbers[aisle] + length - numbers[aisle + 1])
    return found


def least_round(house, task):
    """Return a Round with a least round, its length and a paper that shows it."""
    plan = least_plan(house, task)
    return Round(walk_of(house, task, plan), plan_length(house, plan), paper_for(house, task))


def _is_right_at(house, task, aisle, ahead, behind):
    """Tell whether the numbers never grow by more than the table of the aisle tells."""
    kinds = [kind for kind in kinds_ahead(house, task, aisle) if kind in ahead]
    for (kind, after), length in table_from(house, task, aisle, kinds).items():
        if after not in behind or behind[after] > ahead[kind] + length:
            return False
    return True
