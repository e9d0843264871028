"""Deeds: what can be done on a desk, each as a tuple."""

from phrasejoins.forms import is_kind
from phrasejoins.values import is_count

# How many things stand in a deed of each name.
_LENGTHS = {"put": 3, "take": 2, "use": 2, "make": 3}


def is_deed(value):
    """Whether any object is a deed, with any count as its place and any type."""
    if not isinstance(value, tuple) or len(value) < 2 or not isinstance(value[0], str):
        return False
    if len(value) != _LENGTHS.get(value[0], 0) or not is_count(value[1]):
        return False
    return len(value) == 2 or is_kind(value[2])


def carried_out(desk, deed):
    """What a deed comes to on a desk."""
    name, place = deed[0], deed[1]
    if name == "put":
        return desk.put(place, deed[2])
    if name == "take":
        return desk.take(place)
    if name == "use":
        return desk.use(place)
    return desk.make(place, deed[2])
