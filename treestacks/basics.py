"""What counts as an integer, a word and a text, asked of any value at all."""

MOST_WORDS = 8
MOST_LETTERS = 3


def is_integer(value):
    """Tell whether value is an int that is no bool."""
    return isinstance(value, int) and not isinstance(value, bool)


def is_between(value, low, high):
    """Tell whether value is an integer from low to high."""
    return is_integer(value) and low <= value <= high


def is_word(value):
    """Tell whether value is a string of 1 to 3 letters from a to z."""
    if not isinstance(value, str) or not 1 <= len(value) <= MOST_LETTERS:
        return False
    # Not islower or isalpha: these take letters that are not from a to z.
    return all(["a" <= sign <= "z" for sign in value])


def is_text(value, most):
    """Tell whether value is a tuple of at most so many words."""
    if not isinstance(value, tuple) or len(value) > most:
        return False
    return all([is_word(word) for word in value])


def alike(value, due):
    """Tell whether value is equal to due, which has nothing but tuples, integers and strings in it.

    No function calls itself or compares whole tuples: they may be deeper than calls can be, and have a bool in them
    where due has an integer.
    """
    waiting = [(value, due)]
    while waiting:
        one, other = waiting.pop()
        if isinstance(other, tuple):
            if not isinstance(one, tuple) or len(one) != len(other):
                return False
            waiting.extend(list(zip(one, other)))
        else:
            fits = isinstance(one, str) if isinstance(other, str) else is_integer(one)
            if not fits or one != other:
                return False
    return True
