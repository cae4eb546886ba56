"""Functions and methods of the interface, with arguments that fit, and what is asked of each: nets changed to texts."""

from pairtells import changes, desk, errors, papers, scripts
from pairtells.desk import Desk
from pairtells.nets import Net
from tests import judges
from tests.calls import Call, Parameter, value_here
from tests.judges import both_book, ladder, ladder_book
from tests.net_calls import book_here, is_book, is_net, is_small_book, is_small_net, net_here
from tests.objects import is_count, is_word

CHANGE_KINDS = {"put": "wp", "take": "wp", "place": "w", "leave": "w", "one": "ww"}
RECORD_KINDS = {"put": 1, "take": 1, "wish": 3, "drop": 3, "choose": 3, "leave": 2, "meld": 2, "make_one": 3}
SCRIPT_KINDS = {
    "put": "pl", "take": "s", "wish": "swp", "drop": "swp", "choose": "sww", "leave": "sw", "meld": "ss", "make_one": "sww",
    "marks_there": "sw", "sure_there": "s", "choice_there": "s", "alike_spots": "s", "freest": "", "undo": "", "redo": "",
    "try": "t",
}


def is_places(value):
    return type(value) is list and len(value) > 0 and all(is_word(word) for word in value)


def is_wish(value):
    return type(value) is tuple and len(value) == 2 and is_word(value[0]) and is_places(value[1])


def is_wishes(value):
    return type(value) is list and all(is_wish(wish) for wish in value)


def is_script(value):
    return type(value) is list and all(is_command(SCRIPT_KINDS, command) for command in value)


KINDS = {"w": is_word, "p": is_places, "s": is_count, "l": is_wishes, "t": is_script}


def is_command(kinds, value):
    if type(value) is not tuple or not value or type(value[0]) is not str or value[0] not in kinds:
        return False
    letters = kinds[value[0]]
    return len(value) == len(letters) + 1 and all(KINDS[letter](part) for letter, part in zip(letters, value[1:]))


def are_changes(value):
    return type(value) is list and all(is_command(CHANGE_KINDS, change) for change in value)


def is_record(value):
    if type(value) is not list or not all(type(command) is tuple and command for command in value):
        return False
    return all(type(word) is str and RECORD_KINDS.get(word) == len(rest) for word, *rest in value)


def is_desk(value):
    return isinstance(value, Desk)


def desk_here():
    return Parameter("desk", errors.InvalidDesk, is_desk)


def change_calls():
    small, one_change = net_here(fits=is_small_net), Parameter("changes", errors.InvalidChanges, lambda value, net: are_changes(value))
    name = Parameter("name", errors.InvalidName, lambda value, net: judges.is_name(net.book(), value))
    held = Parameter(
        "places", errors.InvalidPlaces, lambda value, net, name: judges.is_wish(net.book(), net.places(), (name, value)))
    both = [small, one_change]
    some = [("put", "step", ["z", "x"]), ("take", "step", ["x", "y"])]

    def make(more=()):
        return [ladder(), [(word, name, list(places)) for word, name, places in some], *more]

    lost = {"z": "c", "y": "b", "x": "a"}
    return [
        Call(changes.changed, [net_here(), one_change], make),
        Call(changes.kept_fillings, both, make),
        Call(changes.lost_filling, both, make),
        Call(changes.is_lost_filling, both + [value_here()], lambda: make([dict(lost)])),
        Call(changes.fits, [small, name, held], lambda: [ladder(), "step", ["z", "x"]]),
        Call(changes.fitting, [small], lambda: [ladder()]),
        Call(changes.moments, both, make),
        Call(changes.first_end, both, lambda: [Net(judges.odd().book(), ["x"], []), [("put", "ring", ["x", "x"])]]),
        Call(changes.spared, both, lambda: [ladder(), [("put", "step", ["z", "x"]), ("put", "step", ["y", "y"])]]),
    ]


def small_desk():
    """Return a desk with two spots, a choice, and a command that was taken back."""
    made = Desk(ladder_book())
    made.put(ladder())
    made.put(Net(ladder_book(), ["x", "u"], []))
    made.choose(0, "y", "b")
    made.choose(1, "u", "a")
    made.undo()
    return made


def small_record():
    return [("put", ladder()), ("wish", 2, "step", ["z", "x"]), ("choose", 2, "z", "b"), ("take", 1)]


def desk_calls():
    record = Parameter("record", errors.InvalidRecord, lambda value, desk: is_record(value))
    return [
        Call(Desk, [book_here(fits=is_small_book)], lambda: [ladder_book()]),
        Call(desk.replayed, [desk_here(), record], lambda: [small_desk(), small_record()]),
    ]


def asking():
    """Return a script that leaves a desk as it is."""
    inner = [("put", ["p", "q"], [("step", ["p", "q"])]), ("try", [("undo",), ("redo",)]), ("choose", 7, "x", "a")]
    return [("marks_there", 0, "z"), ("sure_there", 0), ("try", inner), ("choice_there", 0), ("alike_spots", 1), ("freest",)]


def day():
    return [
        ("put", ["x", "y"], [("step", ["x", "y"])]), ("choose", 0, "x", "c"), ("sure_there", 0), ("try", [("leave", 0, "x")]),
        ("wish", 0, "step", ["y", "x"]), ("freest",),
    ]


def script_calls():
    script = Parameter("script", errors.InvalidScript, lambda value, *ahead: is_script(value))
    text = Parameter("text", errors.InvalidText, is_script_text)
    book = book_here(fits=is_small_book)
    return [
        Call(scripts.play, [desk_here(), script], lambda: [small_desk(), asking()]),
        Call(scripts.script_text, [script], lambda: [day()]),
        Call(scripts.read_script, [text], lambda: ["put x y" + chr(10) + "  wish step x y" + chr(10) + "end"]),
        Call(scripts.end_of, [book, script], lambda: [ladder_book(), day()]),
        Call(scripts.shortened, [book, script], lambda: [ladder_book(), day()]),
    ]


def is_script_text(value):
    """Return whether any of the objects that are tried is the text of a script."""
    texts = ("", "freest", "undo", "take 0", "try" + chr(10) + "end", "try" + chr(10) + "  take 0" + chr(10) + "end")
    return type(value) is str and value in texts


def is_words_map(value):
    return type(value) is dict and all(is_word(key) and is_word(worth) for key, worth in value.items())


def are_words_of_strikes(value):
    if type(value) is not list or not all(type(strike) is tuple and len(strike) == 5 for strike in value):
        return False
    return all(is_word(word) for strike in value for word in strike)


def is_choice_text(value):
    if type(value) is not str or value == "none":
        return value == "none"
    lines = [line.split(" ") for line in value.split(chr(10))]
    if not all(len(line) == 2 and is_word(line[0]) and is_word(line[1]) for line in lines):
        return False
    places = [line[0] for line in lines]
    return places == sorted(set(places))


def is_strikes_text(value):
    return type(value) is str and value in ("none", "x y a b z")


def is_book_text(value):
    return type(value) is str and value in ("marks a", "marks a b" + chr(10) + "table t 1" + chr(10) + "a")


def is_net_text(value):
    return type(value) is str and value == "marks a" + chr(10) + "places x"


def paper_calls():
    choice = Parameter("choice", errors.InvalidChoice, is_words_map)
    some = Parameter("strikes", errors.InvalidStrikes, are_words_of_strikes)
    texts = [Parameter("text", errors.InvalidText, fits) for fits in (is_book_text, is_net_text, is_choice_text, is_strikes_text)]
    strikes = [("x", "z", "b", "a", "y"), ("x", "z", "c", "a", "y")]
    return [
        Call(papers.book_text, [book_here(fits=is_book)], lambda: [both_book()]),
        Call(papers.read_book, texts[:1], lambda: ["marks a b" + chr(10) + "table t 1" + chr(10) + "a"]),
        Call(papers.net_text, [net_here(fits=is_net)], lambda: [ladder()]),
        Call(papers.read_net, texts[1:2], lambda: ["marks a" + chr(10) + "places x"]),
        Call(papers.choice_text, [choice], lambda: [{"y": "b", "x": "a"}]),
        Call(papers.read_choice, texts[2:3], lambda: ["x a" + chr(10) + "y b"]),
        Call(papers.strikes_text, [some], lambda: [list(strikes)]),
        Call(papers.read_strikes, texts[3:], lambda: ["x y a b z"]),
    ]


def method_calls():
    """Return the methods of a desk, the desk being their first argument."""
    here = Parameter("self", None, is_desk)
    spot, one = [Parameter(name, errors.InvalidSpot, lambda value, desk, *ahead: is_spot(desk, value)) for name in ("spot", "one")]
    name = Parameter("name", errors.InvalidName, lambda value, desk, spot: judges.is_name(desk.net_there(spot).book(), value))
    held = Parameter("places", errors.InvalidPlaces, lambda value, desk, spot, name: judges.is_wish(
        desk.net_there(spot).book(), desk.net_there(spot).places(), (name, value)))
    place, first, second = [Parameter(
        name, errors.InvalidPlace, lambda value, desk, spot, *ahead: judges.is_place(desk.net_there(spot), value) and value not in ahead
    ) for name in ("place", "place", "other")]
    mark = Parameter("mark", errors.InvalidMarks, lambda value, desk, spot, place: type(value) is str and value in ("a", "b", "c"))
    net = Parameter("net", errors.InvalidNet, lambda value, desk: is_net(value))
    away = Parameter("other", errors.InvalidSpot, lambda value, desk, one: is_spot(desk, value) and value != one)
    filling = {"z": "c", "y": "b", "x": "a"}
    return [
        Call(Desk.put, [here, net], lambda: [small_desk(), ladder()]),
        Call(Desk.take, [here, spot], lambda: [small_desk(), 1]),
        Call(Desk.spots, [here], lambda: [small_desk()]),
        Call(Desk.net_there, [here, spot], lambda: [small_desk(), 1]),
        Call(Desk.choice_there, [here, spot], lambda: [small_desk(), 0]),
        Call(Desk.wish, [here, spot, name, held], lambda: [small_desk(), 0, "step", ["z", "x"]]),
        Call(Desk.drop, [here, spot, name, held], lambda: [small_desk(), 0, "step", ["x", "y"]]),
        Call(Desk.choose, [here, spot, place, mark], lambda: [small_desk(), 0, "x", "b"]),
        Call(Desk.leave, [here, spot, place], lambda: [small_desk(), 0, "y"]),
        Call(Desk.marks_there, [here, spot, place], lambda: [small_desk(), 0, "y"]),
        Call(Desk.sure_there, [here, spot], lambda: [small_desk(), 0]),
        Call(Desk.filling_there, [here, spot], lambda: [small_desk(), 0]),
        Call(Desk.is_filling_there, [here, spot, value_here()], lambda: [small_desk(), 0, dict(filling)]),
        Call(Desk.meld, [here, one, away], lambda: [small_desk(), 0, 1]),
        Call(Desk.make_one, [here, spot, first, second], lambda: [small_desk(), 0, "x", "z"]),
        Call(Desk.alike_spots, [here, spot], lambda: [small_desk(), 0]),
        Call(Desk.freest, [here], lambda: [small_desk()]),
        Call(Desk.copy, [here], lambda: [small_desk()]),
        Call(Desk.undo, [here], lambda: [small_desk()]),
        Call(Desk.redo, [here], lambda: [small_desk()]),
        Call(Desk.record, [here], lambda: [small_desk()]),
    ]


def is_spot(made, value):
    return is_count(value) and value in made.spots()
