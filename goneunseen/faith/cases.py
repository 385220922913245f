"""The cases of a check: what freezes in them, and the derivations for them."""

from goneunseen.ask.joins import columns_of
from goneunseen.frozen.chase import as_living, chased
from goneunseen.frozen.derivations import are_steps, is_row_number, rows_after
from goneunseen.frozen.search import first_choice, values_of
from goneunseen.scheme.names import is_whole


class Cases:
    """The cases of a check under a scheme, and what was found out about them."""

    def __init__(self, scheme, triples, parts):
        self._scheme = scheme
        # The variables of the check's places stand for themselves.
        self._own = tuple(columns_of([term for _, terms, _ in triples for term in terms]))
        self._places = triples
        self._parts = parts
        # For each case the triples of its first rows.
        self._triples = [triples, *[[*as_living(triples), *part] for part in parts]]
        self._found = []

    def found(self):
        """For each case up to the first one without a right ending the triples, the rows, the steps and the ending."""
        while not self._is_misled() and len(self._found) < len(self._triples):
            case = len(self._found)
            triples = self._triples[case]
            rows, steps = chased(self._scheme, triples)
            self._found.append((triples, rows, steps, self._ending(case, rows)))
        return list(self._found)

    def are_right(self, value):
        """Whether the value is a tuple of right derivations for all cases."""
        if not isinstance(value, tuple) or len(value) != len(self._triples):
            return False
        for case, pair in enumerate(value):
            if not self._is_right(case, pair):
                return False
        return True

    def _is_misled(self):
        return len(self._found) > 0 and self._found[-1][3] is None

    def _ending(self, case, rows):
        """A right ending for a case behind all that can be done, or None."""
        if rows.is_empty():
            return ("empty",)
        living = rows.by_table(True)
        found = self._rows_there(rows, living) if case == 0 else None
        if found is not None:
            return "there", found
        everything = rows.by_table(False) if case == 0 else living
        values = self._ends_of_own(rows)
        for index, part in enumerate(self._parts):
            choices = [(living if filtered else everything).get(source, []) for source, _, filtered in part]
            found = first_choice([terms for _, terms, _ in part], choices, values)
            if found is not None:
                return "barred", index, tuple([number for _, number in found])
        return None

    def _ends_of_own(self, rows):
        return dict(zip(self._own, rows.ends_of(self._own)))

    def _rows_there(self, rows, living):
        """Numbers of living rows with the terms of the places of a check, or None."""
        found = []
        for source, terms, _ in self._places:
            ends = rows.ends_of(terms)
            numbers = [number for other, number in living.get(source, []) if other == ends]
            if not numbers:
                return None
            found.append(numbers[0])
        return tuple(found)

    def _is_right(self, case, value):
        if not isinstance(value, tuple) or len(value) != 2 or not are_steps(value[0]):
            return False
        rows = rows_after(self._scheme, self._triples[case], value[0])
        ending = value[1]
        if rows is None or not isinstance(ending, tuple):
            return False
        if rows.is_empty():
            return ending == ("empty",)
        if len(ending) == 2 and ending[0] == "there":
            return case == 0 and self._are_there(rows, ending[1])
        if len(ending) == 3 and ending[0] == "barred":
            return self._is_barred(case, rows, ending[1], ending[2])
        return False

    def _are_there(self, rows, numbers):
        """Whether the value is a tuple of numbers of living rows, one for each place of the check, with its terms."""
        if not _are_row_numbers(rows, numbers, [(source, True) for source, _, _ in self._places]):
            return False
        ends = [rows.ends_of(terms) for _, terms, _ in self._places]
        return ends == [rows.terms_of(number) for number in numbers]

    def _is_barred(self, case, rows, index, numbers):
        """Whether the part with this index matches on the rows with these numbers."""
        if not is_whole(index) or not 0 <= index < len(self._parts):
            return False
        part = self._parts[index]
        if not _are_row_numbers(rows, numbers, [(source, case > 0 or filtered) for source, _, filtered in part]):
            return False
        values = self._ends_of_own(rows)
        for (_, terms, _), number in zip(part, numbers):
            values = values_of(terms, rows.terms_of(number), values)
            if values is None:
                return False
        return True


def _are_row_numbers(rows, numbers, wanted):
    """Whether the value is a tuple of numbers of rows of these tables, each with whether it has to be living."""
    if not isinstance(numbers, tuple) or len(numbers) != len(wanted):
        return False
    for number, (table, is_living) in zip(numbers, wanted):
        if not is_row_number(rows, number, is_living) or rows.source_of(number) != table:
            return False
    return True
