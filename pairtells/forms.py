"""Forms of changes and commands: a word, and behind it things of some kinds, told of any object.

A form is a tuple of a word and the names of kinds: word, places, wishes, spot, any, and script for commands within.
"""

from pairtells.kinds import is_count, is_word


def are_of_forms(forms, value):
    """Return whether any object is a list of tuples each of which is of one of the forms."""
    return isinstance(value, list) and all([_is_of_form(forms, each) for each in value])


def _is_of_form(forms, value):
    if not isinstance(value, tuple) or not value:
        return False
    for form in forms:
        if value[0] == form[0]:
            kinds = form[1:]
            return len(value) == len(form) and all([_fits(forms, kind, part) for kind, part in zip(kinds, value[1:])])
    return False


def _fits(forms, kind, value):
    if kind == "word":
        return is_word(value)
    if kind == "places":
        return _are_places(value)
    if kind == "wishes":
        return isinstance(value, list) and all([_is_wish(wish) for wish in value])
    if kind == "spot":
        return is_count(value)
    if kind == "script":
        return are_of_forms(forms, value)
    return True


def _are_places(value):
    return isinstance(value, list) and bool(value) and all([is_word(place) for place in value])


def _is_wish(value):
    return isinstance(value, tuple) and len(value) == 2 and is_word(value[0]) and _are_places(value[1])


def copied(value):
    """Return what surely holds lists and tuples alone at every depth, with new lists."""
    if isinstance(value, list):
        return [copied(part) for part in value]
    if isinstance(value, tuple):
        return tuple([copied(part) for part in value])
    return value
