"""Shelves: the rows of one table while commands change them."""

from goneunseen.base.bases import Base
from goneunseen.errors import KeyTaken, Missing, NotGone, NotLiving, Referred, TooMany
from goneunseen.scheme.tables import picked


class Shelf:
    """The living and the gone rows of a table, by their keys; without a key, a row counts as its own key."""

    def __init__(self, table, earlier):
        self._source = table.name
        self._columns = tuple(range(table.width)) if table.key is None else table.key
        self._is_all = table.scope == "all"
        self._targets = [(columns, earlier[target]) for columns, target in table.refers]
        # The shelves whose rows refer to these, and the columns by which they do, in the order of the tables.
        self._sources = []
        self._living = {}
        self._gone = {}
        # The keys of gone rows, if they are taken by them; and how many references of living rows tell a key.
        self._gone_keys = {}
        self._told = {}
        for name in list(earlier):
            ways = [columns for columns, target in table.refers if target == name]
            shelf = earlier[name]
            if ways:
                shelf._sources.append((self, ways))

    def fill(self, living, gone):
        """Takes over the rows of a base."""
        for row in living:
            self._add_living(picked(row, self._columns), row)
        for row in gone:
            self._gone[row] = gone[row]
            if self._is_all:
                self._gone_keys[picked(row, self._columns)] = row

    def living(self):
        """The living rows, in any order."""
        return list(self._living.values())

    def gone(self):
        """A dict from the gone rows to their numbers of copies, in any order."""
        return {row: self._gone[row] for row in self._gone}

    def is_living(self, row):
        """Whether a row is living."""
        return self._living.get(picked(row, self._columns)) == row

    def copies_of(self, row):
        """How many copies a row has."""
        return self._gone.get(row, 0)

    def referring(self, row):
        """The living rows that refer to a row, as pairs with their tables, by the order of the tables and the rows."""
        key = picked(row, self._columns)
        if self._told.get(key, 0) == 0:
            return []
        pairs = []
        for shelf, ways in self._sources:
            for other in sorted(shelf._living.values()):
                if key in [picked(other, columns) for columns in ways]:
                    pairs.append((shelf._source, other))
        return pairs

    def put(self, row, is_full):
        """Stores a new living row."""
        key = picked(row, self._columns)
        other = self._living.get(key, self._gone_keys.get(key))
        if other is not None:
            raise KeyTaken(other)
        self._check_targets(row)
        if is_full:
            raise TooMany(Base.MAX_ROWS)
        self._add_living(key, row)

    def take(self, row):
        """Makes a living row a copy."""
        key = picked(row, self._columns)
        if self._living.get(key) != row:
            raise NotLiving(row)
        if self._told.get(key, 0) > 0:
            source, other = self.referring(row)[0]
            raise Referred(source, other)
        del self._living[key]
        for columns, shelf in self._targets:
            shelf._told[picked(row, columns)] -= 1
        self._gone[row] = self._gone.get(row, 0) + 1
        if self._is_all:
            self._gone_keys[key] = row

    def back(self, row):
        """Turns a copy into the living row."""
        self._check_has_copy(row)
        key = picked(row, self._columns)
        # With the scope "all" no other gone row has the key of one that is gone, so the living ones are all that count.
        if key in self._living:
            raise KeyTaken(self._living[key])
        self._check_targets(row)
        self._drop_copy(row)
        self._add_living(key, row)

    def purge(self, row):
        """Removes a copy."""
        self._check_has_copy(row)
        self._drop_copy(row)

    def _check_has_copy(self, row):
        if row not in self._gone:
            raise NotGone(row)

    def _check_targets(self, row):
        for columns, shelf in self._targets:
            wanted = picked(row, columns)
            if wanted not in shelf._living:
                raise Missing(shelf._source, wanted)

    def _add_living(self, key, row):
        self._living[key] = row
        for columns, shelf in self._targets:
            wanted = picked(row, columns)
            shelf._told[wanted] = shelf._told.get(wanted, 0) + 1

    def _drop_copy(self, row):
        self._gone[row] -= 1
        if self._gone[row] == 0:
            del self._gone[row]
            if self._is_all:
                del self._gone_keys[picked(row, self._columns)]
