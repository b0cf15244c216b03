"""Sessions: several users draw from one jar and put in beans, and moves can be taken back."""

from beanjars.errors import InvalidUser, NothingToUndo
from beanjars.jars import after, need_same_size

LETTERS = "abcdefghijklmnopqrstuvwxyz"
MOST_LETTERS = 8

# A move is a tuple (user, word, value), and these are its words.
DRAW = "draw"
ADD = "add"


def is_user(value):
    """Whether a value, which can be any, is a user."""
    if not isinstance(value, str) or not 1 <= len(value) <= MOST_LETTERS:
        return False
    return all([letter in LETTERS for letter in value])


def need_user(user):
    """Raise InvalidUser if a value, which can be any, is no user."""
    if not is_user(user):
        raise InvalidUser(user)


class Session:
    """A table, and a jar that users change by moves."""

    def __init__(self, table, jar):
        need_same_size(table, jar)
        self.fixed = table
        # The jars have one item more than the moves made: the first jar, and the jar after each move.
        self.jars = [jar]
        self.made = []
        # The moves that were undone, the last one at the end, each with the jar after it.
        self.undone = []

    @property
    def table(self):
        """The table."""
        return self.fixed

    @property
    def jar(self):
        """The jar after all moves."""
        return self.jars[-1]

    @property
    def moves(self):
        """The moves, as a list."""
        return list(self.made)

    def __len__(self):
        return len(self.made)

    def draw(self, user, draw):
        """Make a draw."""
        need_user(user)
        jar = after(self.fixed, self.jars[-1], draw)
        self.keep((user, DRAW, draw), jar)

    def add(self, user, jar):
        """Put the beans of a jar in."""
        need_user(user)
        self.keep((user, ADD, tuple(jar.counts())), self.jars[-1] + jar)

    def keep(self, move, jar):
        """Add a new move and the jar after it; what was undone can not be redone any more."""
        self.made.append(move)
        self.jars.append(jar)
        self.undone.clear()

    def undo(self):
        """Take the last move back, and return it."""
        if not self.made:
            raise NothingToUndo()
        move = self.made.pop()
        self.undone.append((move, self.jars.pop()))
        return move

    def redo(self):
        """Repeat the move that was undone last, and return it."""
        if not self.undone:
            raise NothingToUndo()
        move, jar = self.undone.pop()
        self.made.append(move)
        self.jars.append(jar)
        return move

    def history(self):
        """The jars from the first one to the one that is current when the first one is taken."""
        for jar in list(self.jars):
            yield jar

    def numbers(self):
        """A dict from each user with moves, sorted, to their number."""
        found = {}
        for user in sorted([user for user, word, value in self.made]):
            found[user] = found.get(user, 0) + 1
        return found
