"""A desk by the words of the document, told by all fillings of its nets, and drawn commands for it."""

from pairtells import errors
from pairtells.nets import Net
from tests import judges
from tests.judges import fillings_of, having
from tests.objects import is_count

FILLINGS = {}


def fillings_at(net):
    """Return the list of all fillings of a net, found once for equal nets."""
    key = repr((net.places(), net.wishes(), [(name, net.book().table(name).rows()) for name in net.book().names()]))
    if key not in FILLINGS:
        FILLINGS[key] = fillings_of(net)
    return FILLINGS[key]


class Wrong(Exception):
    """A command that is refused: the class of the error, and its field."""

    def __init__(self, error, field=None):
        super().__init__(error, field)
        self.error = error
        self.field = field


class Model:
    """Spots, commands that are done, and commands that were taken back, each with the spots behind it."""

    def __init__(self, book):
        self.book = book
        self.done = []
        self.undone = []

    def state(self):
        return self.done[-1][1] if self.done else ({}, 0)

    def there(self, spot):
        if not is_count(spot) or spot not in self.state()[0]:
            raise Wrong(errors.InvalidSpot, spot)
        return self.state()[0][spot]

    def goes(self, net, choice):
        return having(fillings_at(net), choice) != []

    def stands(self, net, choice):
        return choice == {} or self.goes(net, choice)

    def make(self, command):
        """Make a command, and return what it returns."""
        word, *things = command
        spots, many = getattr(self, "do_" + word)(*things)
        self.done = self.done + [(command, (spots, many))]
        self.undone = []
        return many - 1 if word == "put" else None

    def with_spot(self, spot, net, choice):
        spots, many = self.state()
        return {**spots, spot: (net, choice)}, many

    def do_put(self, net):
        if net.book() != self.book:
            raise Wrong(errors.Unlike, net)
        spots, many = self.state()
        return {**spots, many: (net, {})}, many + 1

    def do_take(self, spot):
        self.there(spot)
        spots, many = self.state()
        return {other: spots[other] for other in spots if other != spot}, many

    def check_wish(self, net, name, places):
        if not judges.is_name(net.book(), name):
            raise Wrong(errors.InvalidName, name)
        if not judges.is_wish(net.book(), net.places(), (name, places)):
            raise Wrong(errors.InvalidPlaces, places)

    def do_wish(self, spot, name, places):
        net, choice = self.there(spot)
        self.check_wish(net, name, places)
        more = Net(self.book, net.places(), net.wishes() + [(name, places)])
        if (name, places) in net.wishes() or not self.stands(more, choice):
            raise Wrong(errors.Refused, (name, places))
        return self.with_spot(spot, more, choice)

    def do_drop(self, spot, name, places):
        net, choice = self.there(spot)
        self.check_wish(net, name, places)
        if (name, places) not in net.wishes():
            raise Wrong(errors.Refused, (name, places))
        less = Net(self.book, net.places(), [wish for wish in net.wishes() if wish != (name, places)])
        return self.with_spot(spot, less, choice)

    def check_place(self, net, place):
        if not judges.is_place(net, place):
            raise Wrong(errors.InvalidPlace, place)

    def do_choose(self, spot, place, mark):
        net, choice = self.there(spot)
        self.check_place(net, place)
        if type(mark) is not str or mark not in self.book.marks():
            raise Wrong(errors.InvalidMarks, mark)
        if not self.goes(net, {**choice, place: mark}):
            raise Wrong(errors.Refused, mark)
        return self.with_spot(spot, net, {**choice, place: mark})

    def do_leave(self, spot, place):
        net, choice = self.there(spot)
        self.check_place(net, place)
        if place not in choice:
            raise Wrong(errors.Refused, place)
        return self.with_spot(spot, net, {other: mark for other, mark in choice.items() if other != place})

    def do_meld(self, one, other):
        net, choice = self.there(one)
        more, chosen = self.there(other)
        if one == other:
            raise Wrong(errors.InvalidSpot, other)
        both = Net(self.book, sorted(set(net.places() + more.places())), net.wishes() + more.wishes())
        for place in choice:
            if chosen.get(place, choice[place]) != choice[place]:
                raise Wrong(errors.Refused, other)
        if not self.stands(both, {**choice, **chosen}):
            raise Wrong(errors.Refused, other)
        spots, many = self.with_spot(one, both, {**choice, **chosen})
        return {spot: spots[spot] for spot in spots if spot != other}, many

    def do_make_one(self, spot, place, other):
        net, choice = self.there(spot)
        self.check_place(net, place)
        self.check_place(net, other)
        if place == other:
            raise Wrong(errors.InvalidPlace, other)
        sent = {word: place if word == other else word for word in net.places()}
        made = Net(self.book, sorted(set(sent.values())), [(name, [sent[word] for word in held]) for name, held in net.wishes()])
        told = {choice[word] for word in (place, other) if word in choice}
        rest = {word: mark for word, mark in choice.items() if word not in (place, other)}
        if len(told) == 2 or not self.stands(made, {**rest, **{place: mark for mark in told}}):
            raise Wrong(errors.Refused, other)
        return self.with_spot(spot, made, {**rest, **{place: mark for mark in told}})

    def undo(self):
        if not self.done:
            raise Wrong(errors.NothingToUndo)
        self.done, self.undone = self.done[:-1], self.undone + self.done[-1:]

    def redo(self):
        if not self.undone:
            raise Wrong(errors.NothingToRedo)
        self.done, self.undone = self.done + self.undone[-1:], self.undone[:-1]

    def marks(self, spot, place):
        net, choice = self.there(spot)
        return [mark for mark in self.book.marks() if self.goes(net, {**choice, place: mark})]

    def told(self):
        """Return all that is told of the spots, but for fillings."""
        spots = self.state()[0]
        some = []
        for spot in sorted(spots):
            net, choice = spots[spot]
            marks = {place: self.marks(spot, place) for place in net.places()}
            sure = {place: lot[0] for place, lot in marks.items() if len(lot) == 1 and place not in choice}
            alike = [
                other for other in sorted(spots) if other != spot and spots[other][0].places() == net.places()
                and fillings_at(spots[other][0]) == fillings_at(net)
            ]
            some.append((spot, net, dict(sorted(choice.items())), marks, sure, alike))
        many = {spot: sum(len(lot) for lot in marks.values()) for spot, net, choice, marks, sure, alike in some}
        freest = [spot for spot in many if many[spot] == max(many.values())]
        return some, freest, [command for command, _ in self.done]


def told_by(desk):
    """Return the same of a desk."""
    some = []
    for spot in desk.spots():
        net = desk.net_there(spot)
        marks = {place: desk.marks_there(spot, place) for place in net.places()}
        some.append((spot, net, desk.choice_there(spot), marks, desk.sure_there(spot), desk.alike_spots(spot)))
    return some, desk.freest(), desk.record()


def drawn_net_for(book, drawn):
    words = drawn.sample(["x", "y", "z", "u"], drawn.randint(1, 3))
    wishes = []
    for _ in range(drawn.randint(0, 3) if book.names() else 0):
        name = drawn.choice(book.names())
        wishes.append((name, [drawn.choice(words) for _ in range(book.table(name).width())]))
    return Net(book, words, wishes)


def drawn_command(model, drawn):
    """Return a command that is mostly let."""
    spots = model.state()[0]
    if not spots or len(spots) < 3 and drawn.random() < 0.2:
        return ("put", drawn_net_for(model.book, drawn))
    spot = drawn.choice(sorted(spots)) if drawn.random() < 0.95 else drawn.choice([7, -1, None, True, "0", [0]])
    net = spots[spot][0] if is_count(spot) and spot in spots else drawn_net_for(model.book, drawn)
    place, other = [drawn.choice(net.places() if drawn.random() < 0.95 else ["w", None, ["x"]]) for _ in range(2)]
    mark = drawn.choice(model.book.marks() if drawn.random() < 0.95 else ["d", None, 0])
    word = drawn.choice(["take", "meld", "make_one"] + ["wish", "drop", "leave"] * 3 + ["choose"] * 5)
    if word == "take":
        return (word, spot)
    if word == "meld":
        return (word, spot, drawn.choice(sorted(spots)))
    if word == "wish":
        name = drawn.choice(model.book.names() + ["n"])
        width = model.book.table(name).width() if name != "n" else 2
        return (word, spot, name, [drawn.choice(net.places()) for _ in range(width if drawn.random() < 0.95 else 5)])
    if word == "drop":
        name, places = drawn.choice(net.wishes() + [("n", ["x"])])
        return (word, spot, name, places)
    if word == "leave":
        return (word, spot, drawn.choice(sorted(spots[spot][1]) or [place]) if is_count(spot) and spot in spots else place)
    return (word, spot, place, mark if word == "choose" else other)


def made_on(desk, command):
    """Make a command on a desk by its method, and return what this returns."""
    word, *things = command
    return getattr(desk, word)(*things)
