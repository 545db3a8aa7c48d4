"""A desk: a tray that is led by commands."""

from tilepushes.before import many_before
from tilepushes.ends import all_ends, least_length
from tilepushes.errors import InvalidCommand, NoTray
from tilepushes.rows import is_pushes, is_side
from tilepushes.texts import is_number_to, is_row_text, read_row, row_text
from tilepushes.trays import GREATEST_PUT, ScoreTray

WITHOUT_WORDS = ("undo", "show", "score", "ends", "fewest")


def is_tray_text(text):
    """Return whether a text is that of a row that a tray takes."""
    return is_row_text(text) and len(read_row(text)) <= ScoreTray.MOST


def are_words_of(name, words):
    """Return whether words make a command behind its name."""
    if name == "row":
        return is_tray_text(" ".join(words))
    if name == "put":
        return len(words) == 2 and is_number_to(words[0], GREATEST_PUT) and is_side(words[1])
    if name == "push":
        return len(words) == 1 and is_pushes(words[0]) and words[0] != ""
    if name == "before":
        return len(words) == 1 and is_side(words[0])
    return name in WITHOUT_WORDS and words == []


def is_command(value):
    """Return whether a value is a command."""
    if not isinstance(value, str):
        return False
    name, *words = value.split(" ")
    return are_words_of(name, words)


def put_tile(tray, words):
    """Put a tile on a tray. Return the number of tiles."""
    return str(tray.put(int(words[0]), side=words[1]))


def push_tiles(tray, words):
    """Push a tray. Return how many tiles each push made."""
    sides = words[0]
    return " ".join([str(many) for many in tray.push_all(*sides)])


def undo_change(tray, words):
    """Revert the last change of a tray."""
    tray.undo()
    return "ok"


def tell_row(tray, words):
    """Return the text of the row."""
    return row_text(tray.row_now)


def tell_score(tray, words):
    """Return the score."""
    return str(tray.score_now)


# The row on a tray is not checked again, since a push may lead from the
# greatest level to the one beyond: so these go without `ends_of` and the like.
def tell_ends(tray, words):
    """Return the texts of all ends of the row."""
    return " / ".join([row_text(end) for end in all_ends(tray.row_now)])


def tell_fewest(tray, words):
    """Return the least number of tiles of an end of the row."""
    return str(least_length(all_ends(tray.row_now)))


def tell_before(tray, words):
    """Return the number of rows before the row for one push."""
    return str(many_before(tray.row_now, words[0]))


ACTIONS = {
    "put": put_tile,
    "push": push_tiles,
    "undo": undo_change,
    "show": tell_row,
    "score": tell_score,
    "ends": tell_ends,
    "fewest": tell_fewest,
    "before": tell_before,
}


class Desk:
    """A tray that is led by commands; there is none at first."""

    def __init__(self):
        self._tray = None

    def execute(self, command):
        """Run one command and return its result, a text."""
        if not is_command(command):
            raise InvalidCommand("this is no command")
        name, *words = command.split(" ")
        if name == "row":
            self._tray = ScoreTray.read(" ".join(words))
            return "ok"
        if self._tray is None:
            raise NoTray("the first command is `row`")
        action = ACTIONS[name]
        return action(self._tray, words)
