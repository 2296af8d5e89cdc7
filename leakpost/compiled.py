"""Bodies compiled to moves of a machine."""

from leakpost.bodies import check_body
from leakpost.errors import BadName
from leakpost.words import LETTERS, is_name

MOST_STEM = 7


class Plan:
    """The moves and stands of one machine, as they are made of a body.

    What is made of a body between two stands has no move to the first and none from the last of them (but
    where they are one), so bodies may share such stands and no way leads from one into the midst of another.
    """

    def __init__(self, machine, stem):
        self.owner = machine
        self.stem = stem
        self.stand_count = 0
        self.made = []

    def new_stand(self):
        """A stand that was not told before."""
        self.stand_count += 1
        return self.stem + LETTERS[self.stand_count - 1]

    def put(self, start, act, end):
        """Adds a move."""
        self.made.append((self.owner, start, act, end))

    def fill(self, body, start, end):
        """Adds moves whose ways from start to end are the body's ways."""
        kind = body[0]
        if kind == "then":
            mid = self.new_stand()
            self.fill(body[1], start, mid)
            self.fill(body[2], mid, end)
        elif kind == "or":
            self.fill(body[1], start, end)
            self.fill(body[2], start, end)
        elif kind == "again":
            # From this stand to itself the ways of x can be gone any count of times.
            mid = self.new_stand()
            self.put(start, ("idle",), mid)
            self.fill(body[1], mid, mid)
            self.put(mid, ("idle",), end)
        else:
            self.put(start, ("idle",) if kind == "skip" else body, end)


def compiled(machine, body, *, stem="s"):
    """The triple (first, moves, last) whose ways are the body's; BadName, BadBody."""
    if not is_name(machine) or not is_name(stem) or len(stem) > MOST_STEM:
        raise BadName()
    check_body(body)
    plan = Plan(machine, stem)
    first = plan.new_stand()
    last = plan.new_stand()
    plan.fill(body, first, last)
    return (first, plan.made, last)
