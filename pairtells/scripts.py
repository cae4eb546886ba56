"""Scripts: lists of commands for a desk, what is said when they are played, and their texts."""

from pairtells.desk import Desk, called, check_desk
from pairtells.errors import InvalidScript, InvalidText, PairError
from pairtells.forms import are_of_forms, copied
from pairtells.nets import Net

SCRIPT_FORMS = (
    ("put", "places", "wishes"),
    ("take", "spot"),
    ("wish", "spot", "word", "places"),
    ("drop", "spot", "word", "places"),
    ("choose", "spot", "word", "word"),
    ("leave", "spot", "word"),
    ("meld", "spot", "spot"),
    ("make_one", "spot", "word", "word"),
    ("marks_there", "spot", "word"),
    ("sure_there", "spot"),
    ("choice_there", "spot"),
    ("alike_spots", "spot"),
    ("freest",),
    ("undo",),
    ("redo",),
    ("try", "script"),
)
FIGURES = "0123456789"
INDENT = "  "


def _check_script(script):
    if not are_of_forms(SCRIPT_FORMS, script):
        raise InvalidScript(script)


def play(desk, script):
    """Carry out a script on a desk, and return the list of what is said."""
    check_desk(desk)
    _check_script(script)
    return _all_said(desk, script)


def _all_said(desk, script):
    return [_said(desk, command[0], command[1:]) for command in script]


def _said(desk, word, things):
    if word == "try":
        with desk.trial():
            return ("tried", _all_said(desk, things[0]))
    try:
        told = _told(desk, word, things)
    except PairError as error:
        return ("refused", error.__class__.__name__)
    if word == "put":
        return ("put", told)
    return ("done",) if told is None else ("told", told)


def _told(desk, word, things):
    """Return what the method of a command returns."""
    if word == "put":
        places, wishes = things
        return desk.put(Net(desk.book(), places, wishes))
    return called(desk, word, things)


def script_text(script):
    """Return the text of a script."""
    _check_script(script)
    return "\n".join(_lines_of(script))


def _lines_of(script):
    return [line for command in script for line in _lines_of_command(command)]


def _lines_of_command(command):
    word = command[0]
    if word == "put":
        return [_line_of([word, command[1]])] + [INDENT + _line_of(["wish", *wish]) for wish in command[2]] + ["end"]
    if word == "try":
        return [word] + [INDENT + line for line in _lines_of(command[1])] + ["end"]
    return [_line_of(list(command))]


def _line_of(parts):
    """Return the line of words, counts and lists of words, with blanks between them."""
    words = []
    for part in parts:
        words.extend(part if isinstance(part, list) else [str(part)])
    return " ".join(words)


def read_script(text):
    """Return the script of a text."""
    if not isinstance(text, str):
        raise InvalidText(text)
    script = _script_in(text.split("\n")) if text else []
    # What was read loosely is right if its text is just this one.
    if not are_of_forms(SCRIPT_FORMS, script) or script_text(script) != text:
        raise InvalidText(text)
    return script


def _script_in(lines):
    """Return what lines tell as a script, read loosely: not a script, perhaps."""
    script = []
    at = 0
    while at < len(lines):
        words = lines[at].split(" ")
        at = at + 1
        inner = []
        if words[0] in ("put", "try"):
            while at < len(lines) and lines[at].startswith(INDENT):
                inner.append(lines[at][len(INDENT):])
                at = at + 1
            # Here the line of the end stands.
            at = at + 1
        script.append(_command_in(words, inner))
    return script


def _command_in(words, inner):
    word, *rest = words
    if word == "put":
        return (word, rest, [_wish_in(line.split(" ")) for line in inner])
    if word == "try":
        return (word, _script_in(inner))
    for form in SCRIPT_FORMS:
        if form[0] == word:
            return (word, *_things_in(form[1:], rest))
    return ()


def _wish_in(words):
    return (words[1], words[2:]) if len(words) > 1 else ()


def _things_in(kinds, words):
    """Return the list of what words tell as things of some kinds, fewer if there are too few words."""
    things = []
    for at, kind in enumerate(kinds[:len(words)]):
        if kind == "places":
            things.append(words[at:])
        elif kind == "spot":
            things.append(_count_in(words[at]))
        else:
            things.append(words[at])
    return things


def _count_in(word):
    """Return the count that figures tell, None if a word is not of figures."""
    return int(word) if word and all([letter in FIGURES for letter in word]) else None


def end_of(book, script):
    """Return the dictionary from the spots, once a script was played on a new desk, to the net and the choice there."""
    desk = Desk(book)
    play(desk, script)
    return {spot: (desk.net_there(spot), desk.choice_there(spot)) for spot in desk.spots()}


def shortened(book, script):
    """Return what is left of a script if each command, from the last to the first, goes that leaves the same end."""
    end = end_of(book, script)
    kept = list(script)
    for at in reversed(range(len(script))):
        less = kept[:at] + kept[at + 1:]
        if end_of(book, less) == end:
            kept = less
    return copied(kept)
