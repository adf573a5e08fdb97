"""A yard: a house whose deeds can be undone, with a log."""

from liftwater.bare import go, is_tour
from liftwater.errors import NoTour


class Yard:
    """A House of its own, the ones that it was ahead of each deed that stands, and both ends of all deeds."""

    def __init__(self, house):
        self.held = house.like()
        self.past = []
        self.ends = []

    def do(self, trip):
        """Does a trip as a House does."""
        self.ends.append(("in", "do"))
        try:
            after = self.held.like()
            ran = after.do(trip)
            self.keep(after)
            return ran
        finally:
            self.ends.append(("out", "do"))

    def tours(self, trips, many):
        """Does so many tours as one deed, and tells what ran over; refused with NoTour(number), Dry, Lack."""
        self.ends.append(("in", "tours"))
        try:
            if not is_tour(self.held, trips):
                raise NoTour(len(trips))
            after = go(self.held, trips, many)
            ran = tuple([so_far - ahead for so_far, ahead in zip(after.ran(), self.held.ran())])
            self.keep(after)
            return ran
        finally:
            self.ends.append(("out", "tours"))

    def all_of(self, deeds):
        """Does trips one by one as one deed, and tells the list of what each tells; refused as the first that is."""
        self.ends.append(("in", "all_of"))
        try:
            after = self.held.like()
            told = [after.do(trip) for trip in deeds]
            self.keep(after)
            return told
        finally:
            self.ends.append(("out", "all_of"))

    def undo(self):
        """Undoes the last deed that stands; whether there was one."""
        self.ends.append(("in", "undo"))
        found = len(self.past) > 0
        if found:
            self.held = self.past.pop()
        self.ends.append(("out", "undo"))
        return found

    def keep(self, after):
        """Has another House from now on, by a deed that stands."""
        # No House that is kept is changed any more: so twins may share them.
        self.past.append(self.held)
        self.held = after

    def house(self):
        """A House of its own, as it is now."""
        return self.held.like()

    def deeds(self):
        """How many deeds stand."""
        return len(self.past)

    def log(self):
        """Both ends of each deed, ("in", word) and ("out", word)."""
        return list(self.ends)

    def twin(self):
        """A Yard of its own, that goes on alike, its log bare."""
        other = Yard(self.held)
        other.past = list(self.past)
        return other
