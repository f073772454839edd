"""Desks at which rollouts are changed."""

from fillbehind.errors import NoChange, NoNumber, NoOption, NoRollout
from fillbehind.judging import judge
from fillbehind.kinds import is_between
from fillbehind.repairs import stricter
from fillbehind.rollouts import Writer, check_rollout, rebuilt, writer_at
from fillbehind.ways import with_way, without


def put_at(items, at, item):
    """The items with another one in a place, or with one more behind the last one."""
    return items[:at] + (item,) + items[at + 1:]


class Desk:
    """A desk at which a rollout is changed, and changes are taken back and done again."""

    def __init__(self, rollout):
        check_rollout(rollout)
        self.current = rollout
        # The rollouts ahead of the changes that can be undone, and those behind the changes that can be done again.
        self.earlier = []
        self.later = []

    def __len__(self):
        return len(self.earlier)

    def told(self):
        """The rollout as it is."""
        return self.current

    def take(self, option):
        """Take an option."""
        try:
            made = stricter(self.current, (option,))
        except NoOption as why:
            raise NoChange("take") from why
        self.change(made)

    def leave_out(self, phase):
        """Leave out a phase."""
        try:
            made = without(self.current, phase)
        except NoNumber as why:
            raise NoChange("leave_out") from why
        self.change(made)

    def add_way(self, phase, earlier):
        """Add a way back."""
        try:
            made = with_way(self.current, phase, earlier)
        except NoNumber as why:
            raise NoChange("add_way") from why
        self.change(made)

    def put_fill(self, fill):
        """Put a Fill in the place of the one that is there."""
        self.put("put_fill", self.current.writers, fill, self.current.phases)

    def put_writer(self, writer):
        """Put a Writer in the place of the one of its name, or behind the others."""
        if not isinstance(writer, Writer):
            raise NoChange("put_writer")
        at = writer_at(self.current, writer.name)
        if at is None:
            at = len(self.current.writers)
        self.put("put_writer", put_at(self.current.writers, at, writer), self.current.fill, self.current.phases)

    def put_phase(self, index, phase):
        """Put a Phase in the place of the one with this index, or behind the last one."""
        if not is_between(index, 0, len(self.current)):
            raise NoChange("put_phase")
        self.put("put_phase", self.current.writers, self.current.fill, put_at(self.current.phases, index, phase))

    def undo(self):
        """Take back the last change; tell whether there was one."""
        if len(self.earlier) == 0:
            return False
        self.later.append(self.current)
        self.current = self.earlier.pop()
        return True

    def redo(self):
        """Do the change again that was taken back last; tell whether there was one."""
        if len(self.later) == 0:
            return False
        self.earlier.append(self.current)
        self.current = self.later.pop()
        return True

    def verdict(self, *, most=2000):
        """What is judged of the rollout as it is."""
        return judge(self.current, most=most)

    def put(self, word, writers, fill, phases):
        """Make the rollout of other parts; the word tells the method that does so."""
        try:
            made = rebuilt(self.current, writers, fill, phases, self.current.back)
        except NoRollout as why:
            raise NoChange(word) from why
        self.change(made)

    def change(self, rollout):
        """Put a rollout in the place of the one that is there."""
        self.earlier.append(self.current)
        self.current = rollout
        self.later = []
