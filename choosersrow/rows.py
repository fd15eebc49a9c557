"""Endless rows of numbers."""

from choosersrow.errors import OutOfRange


def shortest_cycle(cycle):
    """Return the shortest cycle that repeats to the same entries."""
    length = 1
    while cycle[:length] * (len(cycle) // length) != cycle:
        length += 1
    return cycle[:length]


def turned_cycle(cycle, count):
    """Return the cycle that begins so many entries further on."""
    start = count % len(cycle)
    return cycle[start:] + cycle[:start]


def count_spare(head, cycle):
    """Return how many entries at the end of the head the cycle can take over."""
    spare = 0
    while spare < len(head) and head[-1 - spare] == cycle[-1 - (spare % len(cycle))]:
        spare += 1
    return spare


class Row:
    """A row: the entries of the head, and behind them those of the cycle again and again."""

    def __init__(self, head, cycle=(0,)):
        if len(cycle) == 0 or not all([entry >= 0 for entry in head + cycle]):
            raise OutOfRange("a row has a cycle, and its entries are not below 0")
        self.head = head
        self.cycle = cycle

    def __getitem__(self, at):
        if at < 0:
            raise OutOfRange("a place is not below 0")
        if at < len(self.head):
            return self.head[at]
        return self.cycle[(at - len(self.head)) % len(self.cycle)]

    def __iter__(self):
        raise TypeError("a row has no end")

    def start(self, length):
        """Return the tuple of the first entries."""
        if length < 0:
            raise OutOfRange("a length is not below 0")
        return tuple([self[place] for place in range(length)])

    def least(self):
        """Return the row in its least form."""
        cycle = shortest_cycle(self.cycle)
        spare = count_spare(self.head, cycle)
        return Row(self.head[:len(self.head) - spare], turned_cycle(cycle, -spare))

    def after(self, count):
        """Return the row without its first entries."""
        if count < 0:
            raise OutOfRange("a count is not below 0")
        passed = max(0, count - len(self.head))
        return Row(self.head[count:], turned_cycle(self.cycle, passed)).least()

    def lead(self, entries):
        """Return the row that begins with the entries and goes on with those of this row."""
        return Row(entries + self.head, self.cycle).least()


def same_rows(first, second):
    """Return whether the two rows have the same entry at each place."""
    one, other = first.least(), second.least()
    return (one.head, one.cycle) == (other.head, other.cycle)
