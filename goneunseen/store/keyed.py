"""The rows of a base by their keys, as what asks for returns and hindrances finds them."""

from goneunseen.scheme.tables import key_columns, picked


class Keyed:
    """The living and the gone rows of a base by their keys; without a key, a row counts as its own key."""

    def __init__(self, base):
        self._stored = base
        self._columns = {}
        self._references = {}
        for table in base.scheme:
            self._columns[table.name] = key_columns(table)
            self._references[table.name] = table.refers
        # Most questions are about few tables, so the rows of a table are sorted out when they are asked for.
        self._living = {}
        self._gone = {}

    def key_of(self, name, row):
        """The key of a row."""
        return picked(row, self._columns[name])

    def needed_by(self, name, row):
        """For each reference of a row the pair of the target and the key that it tells."""
        return [(target, picked(row, columns)) for columns, target in self._references[name]]

    def living_with(self, name, key):
        """The living row with this key, or None."""
        if name not in self._living:
            columns = self._columns[name]
            self._living[name] = {picked(row, columns): row for row in self._stored.living(name)}
        return self._living[name].get(key)

    def gone_with(self, name, key):
        """The gone rows with this key, ascending."""
        if name not in self._gone:
            columns, rows = self._columns[name], {}
            for row in self._stored.gone(name):
                rows.setdefault(picked(row, columns), []).append(row)
            self._gone[name] = rows
        return list(self._gone[name].get(key, ()))

    def rival_of(self, name, row):
        """The living row beside which a row cannot live, or None."""
        return self.living_with(name, picked(row, self._columns[name]))

    def can_come_back(self, name, row):
        """Whether a gone row has no rival, and refers to living rows alone."""
        if self.rival_of(name, row) is not None:
            return False
        return all([self.living_with(target, key) is not None for target, key in self.needed_by(name, row)])

    def bring_back(self, name, row):
        """Counts a row that can come back as living from now on."""
        self._living[name][picked(row, self._columns[name])] = row
