"""How a reading in which a kind comes within itself is grown."""

from treestacks.basics import is_between
from treestacks.errors import InvalidNumber, InvalidPlaces, InvalidReading
from treestacks.pairs import numbers_of, plain_reading

MOST_RULES_TO_GROW = 40
MOST_TIMES = 4


def grown(pairs, reading, outer, inner, times):
    """Return reading with what stands at outer put into itself at inner so often."""
    numbers = numbers_of(pairs, reading, MOST_RULES_TO_GROW)
    if numbers is None:
        raise InvalidReading(reading)
    whole = plain_reading(pairs, numbers)
    if not are_places(pairs, whole, outer, inner):
        raise InvalidPlaces((outer, inner))
    if not is_between(times, 0, MOST_TIMES):
        raise InvalidNumber(times)
    around = part_at(whole, outer)
    put_in = part_at(whole, inner)
    for _ in range(times):
        put_in = with_part(around, inner[len(outer):], put_in)
    return with_part(whole, outer, put_in)


def are_places(pairs, reading, outer, inner):
    """Tell whether at outer and inner, which begins with outer and is longer, stand readings of one kind."""
    if not is_place(reading, outer) or not is_place(reading, inner):
        return False
    if len(inner) <= len(outer) or inner[:len(outer)] != tuple(outer):
        return False
    return pairs.rules[part_at(reading, outer)[0]][0] == pairs.rules[part_at(reading, inner)[0]][0]


def is_place(reading, value):
    """Tell whether value is a place in reading."""
    if not isinstance(value, tuple):
        return False
    part = reading
    for step in value:
        # A reading has its number ahead of its parts.
        if not is_between(step, 0, len(part) - 2):
            return False
        part = part[1 + step]
    return True


def part_at(reading, place):
    """Return what stands at place in reading."""
    for step in place:
        reading = reading[1 + step]
    return reading


def with_part(reading, place, part):
    """Return reading with part at place instead of what stands there."""
    passed = []
    for step in place:
        passed.append((reading, 1 + step))
        reading = reading[1 + step]
    for around, at in reversed(passed):
        part = (*around[:at], part, *around[at + 1:])
    return part
