"""Frames and slots: what a count and two values are kept for."""


class Store:
    """A row of frames, or of slots; at first all are free, and their values 0."""

    def __init__(self):
        # Only what is not 0 is kept, so that two rows are alike exactly if these dicts are.
        self._counts = {}
        self._contents = {}

    def take(self):
        """Take the least free one, and return its number; its values stay."""
        number = 0
        while number in self._counts:
            number += 1
        self._counts[number] = 1
        return number

    def count_of(self, number):
        """Return the count of one."""
        return self._counts.get(number, 0)

    def values_of(self, number):
        """Return the list of the two values of one."""
        return list(self._contents.get(number, (0, 0)))

    def change(self, number, cell, value):
        """Change one value of one."""
        row = self.values_of(number)
        row[cell] = value
        self.fill(number, row)

    def fill(self, number, values):
        """Let one have these two values."""
        first, second = values
        if first == 0 and second == 0:
            self._contents.pop(number, None)
        else:
            self._contents[number] = (first, second)

    def raise_one(self, number):
        """Add 1 to the count of one."""
        self._counts[number] = self.count_of(number) + 1

    def lower_one(self, number):
        """Subtract 1 from the count of one, not below 0."""
        count = self.count_of(number)
        if count > 1:
            self._counts[number] = count - 1
        else:
            self._counts.pop(number, None)

    def taken(self):
        """Return the ascending list of the numbers of those that are not free."""
        return sorted(self._counts)

    def shape(self):
        """Return a tuple of all that tells one row from another; it never changes."""
        return (tuple(sorted(self._counts.items())), tuple(sorted(self._contents.items())))

    def copied(self):
        """Return a Store like this one."""
        other = Store()
        other._counts = self._counts.copy()
        other._contents = self._contents.copy()
        return other

    def __eq__(self, other):
        return isinstance(other, Store) and self._counts == other._counts and self._contents == other._contents
