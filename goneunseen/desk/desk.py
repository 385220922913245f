"""The desk: a store with questions that it guards, and with a journal."""

from goneunseen.ask.answers import answers, numbers
from goneunseen.ask.programs import outlines_of
from goneunseen.ask.tallies import Counted, Tally
from goneunseen.ask.told import told_both_ways
from goneunseen.desk.guard import all_guarded, check_policy, guarded
from goneunseen.desk.journal import Journal
from goneunseen.errors import InvalidCommand, InvalidOperation, TooMany, UnknownName
from goneunseen.frozen.derivations import check_mode
from goneunseen.scheme.names import is_name
from goneunseen.store.commands import are_commands
from goneunseen.store.histories import do_or_stop
from goneunseen.store.ledger import Ledger
from goneunseen.store.stores import Store


class Moment:
    """What a desk holds behind a step, beside its journal; a moment never changes."""

    def __init__(self, base, questions, policy):
        self.base_then = base
        self.questions_then = questions
        self.policy_then = policy


class Held:
    """All that a desk holds at the beginning of a block; no part of it is ever changed in place."""

    def __init__(self, desk, around):
        self.held_base = desk._base
        self.held_questions = desk._questions
        self.held_policy = desk._policy
        self.held_steps = desk._steps
        self.held_many = desk._how_many_done
        self.held_moments = desk._moments
        # What was held at the beginning of the block around this one.
        self.around = around


class Desk(Store, Journal):
    """A store and a journal, with questions under a policy."""

    POLICIES = ("strict", "mend", "free")
    MAX_QUESTIONS = 6

    def __init__(self, scheme, *, policy="free"):
        Store.__init__(self, scheme)
        Journal.__init__(self)
        check_policy(policy)
        # A dict that is never changed: another one is put in its place.
        self._questions = {}
        self._policy = policy
        # What there was ahead of the first step and behind each one, also behind those that were undone.
        self._moments = (Moment(self._base, self._questions, self._policy),)
        self._held = None

    @property
    def scheme(self):
        """The scheme."""
        return self._base.scheme

    @property
    def base(self):
        """The base as it is now."""
        return self._base

    @property
    def log(self):
        """The steps that are done."""
        return self._steps[:self._how_many_done]

    @property
    def undone(self):
        """The steps that were undone, the next one to be done again first."""
        return self._steps[self._how_many_done:]

    @property
    def names(self):
        """The names of the questions, ascending."""
        return tuple(sorted(self._questions))

    @property
    def policy(self):
        """The present policy."""
        return self._policy

    @policy.setter
    def policy(self, value):
        self.set_policy(value)

    def put(self, table, row):
        """Stores a new living row."""
        return self._with_step(super().put(table, row))

    def take(self, table, row, *, along=False):
        """Marks a living row as gone, along with all that refer to it if this is asked for."""
        return self._with_step(super().take(table, row, along=along))

    def back(self, table, row):
        """Turns a copy into the living row."""
        return self._with_step(super().back(table, row))

    def purge(self, table, row, *, many=1):
        """Removes copies of a gone row."""
        return self._with_step(super().purge(table, row, many=many))

    def mark(self, table, row, word):
        """Sees to it that a row is living, or gone, or not stored."""
        return self._with_step(super().mark(table, row, word))

    def purge_all(self, *tables):
        """Removes all copies of all rows of these tables, or of all tables."""
        return self._with_step(super().purge_all(*tables))

    def do(self, command):
        """Does a command."""
        return self._with_step(super().do(command))

    def do_all(self, commands):
        """Does all commands as one step, or none of them."""
        if not isinstance(commands, tuple):
            raise InvalidOperation("the commands are no tuple")
        if not are_commands(commands):
            raise InvalidCommand("no command")
        ledger = Ledger(self._base)
        for index, command in enumerate(commands):
            do_or_stop(ledger, command, index)
        self._base, self._ledger = ledger.base_now(), ledger
        return self._with_step(commands)

    def tried(self, commands):
        """The base behind the commands up to the first refused one, and its index; the desk stays as it is."""
        return super().tried(commands)

    def enter(self, step):
        """Adds a step that is done, and forgets those that were undone."""
        super().enter(step)
        moment = Moment(self._base, self._questions, self._policy)
        self._moments = (*self._moments[:self._how_many_done], moment)

    def undo(self, many=1):
        """Undoes steps, and returns them, the last one first."""
        steps = super().undo(many)
        self._go_back_to(self._moments[self._how_many_done])
        return steps

    def redo(self, many=1):
        """Does steps again that were undone, and returns them, the first one first."""
        steps = super().redo(many)
        self._go_back_to(self._moments[self._how_many_done])
        return steps

    def define(self, name, program, view, *, mode="answers"):
        """Puts in a question, and returns its new filters."""
        if not is_name(name):
            raise InvalidOperation("a question needs a name")
        outlines_of(program, view)
        check_mode(mode)
        if not program.scheme == self._base.scheme:
            raise InvalidOperation("the program has another scheme")
        if name not in self._questions and len(self._questions) >= self.MAX_QUESTIONS:
            raise TooMany(self.MAX_QUESTIONS)
        question, added = guarded(self._policy, name, (program, view, mode))
        self._questions = {**self._questions, name: question}
        self.enter(("define", name))
        return added

    def drop(self, name):
        """Removes a question."""
        self._check_question(name)
        self._questions = {other: self._questions[other] for other in self._questions if other != name}
        self.enter(("drop", name))

    def question(self, name):
        """The program, the view and the mode of a question."""
        self._check_question(name)
        return self._questions[name]

    def set_policy(self, word):
        """Chooses a policy, and returns the new filters of the questions that get some."""
        check_policy(word)
        questions, filters = all_guarded(word, self._questions)
        self._questions, self._policy = questions, word
        self.enter(("policy", word))
        return filters

    def adopt(self, scheme):
        """Gives another scheme to the base and the programs, and returns the new filters."""
        base = self._base.on(scheme)
        moved = {}
        for name in self._questions:
            program, view, mode = self._questions[name]
            moved[name] = (program.under(scheme), view, mode)
        questions, filters = all_guarded(self._policy, moved)
        self._base, self._ledger, self._questions = base, None, questions
        self.enter(("adopt",))
        return filters

    def tell(self, name):
        """What a question tells from all rows."""
        program, view, mode = self.question(name)
        if mode == "answers":
            return answers(program, view, self._base)
        return numbers(program, view, self._base)

    def surplus(self, name):
        """What a question tells from all rows, but not from the living rows."""
        program, view, mode = self.question(name)
        everything, living = told_both_ways(outlines_of(program, view), self._base)
        if mode == "answers":
            return tuple([answer for answer in everything if answer not in living])
        return Tally(Counted({answer: everything[answer] - living.get(answer, 0) for answer in everything}))

    def parted(self):
        """The names of the questions with a surplus, ascending."""
        return tuple([name for name in sorted(self._questions) if len(self.surplus(name)) > 0])

    def trial(self):
        """What gives the desk to a block, at whose end it is as it was: the desk itself."""
        return self

    def during(self, action):
        """What an action returns that is passed the desk, which is afterwards as it was."""
        with self.trial() as same:
            return action(same)

    def twin(self):
        """An independent desk in the same state, with the same journal."""
        other = Desk(self._base.scheme)
        other._base = self._base
        other._questions = self._questions
        other._policy = self._policy
        other._steps = self._steps
        other._how_many_done = self._how_many_done
        other._moments = self._moments
        return other

    def __enter__(self):
        self._held = Held(self, self._held)
        return self

    def __exit__(self, kind, value, trace):
        self._base = self._held.held_base
        self._ledger = None
        self._questions = self._held.held_questions
        self._policy = self._held.held_policy
        self._steps = self._held.held_steps
        self._how_many_done = self._held.held_many
        self._moments = self._held.held_moments
        self._held = self._held.around

    def __getitem__(self, at):
        is_living, copies = self._base[at]
        if is_living:
            return "living"
        return "gone" if copies > 0 else None

    def __setitem__(self, at, worth):
        table, row = at
        self.mark(table, row, worth)

    def __iter__(self):
        raise TypeError("a desk cannot be iterated over")

    def __len__(self):
        # The subset of Python asks for a len(..) here, and the rows stand in no one list.
        return len(range(self._base.size))

    def __contains__(self, value):
        return value in self._base

    def __eq__(self, other):
        return (
            isinstance(other, Desk)
            and self._base == other._base
            and self._questions == other._questions
            and self._policy == other._policy
        )

    def _with_step(self, commands):
        """Enters a step for commands that are done, if there are any."""
        if commands:
            self.enter(("do", commands))
        return commands

    def _go_back_to(self, moment):
        self._base, self._ledger = moment.base_then, None
        self._questions, self._policy = moment.questions_then, moment.policy_then

    def _check_question(self, name):
        if not is_name(name) or name not in self._questions:
            raise UnknownName(name)
