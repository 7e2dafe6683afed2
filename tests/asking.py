"""Questions, claims, and what is neither, for the tests."""

from grammars import EACH_SHAPE, ODD_VALUES, Row

RIGHT_TEXTS = ((), ("a",), ("abc", "z"), ("a",) * 8)
NUMBERS = (0, 1, 2, 10 ** 12 - 1, 10 ** 40)
WRONG_NUMBERS = (-1, -2, 1 - 10 ** 12, True, False, None, "0", 0.0, (), (0,), [0], EACH_SHAPE)
NINE = ("a",) * 9

QUESTIONS = (("longest",), *[(word, text) for word in ("text", "readings") for text in RIGHT_TEXTS])
CLAIMS = (
    ("any",), ("nothing",), *[("longest", many) for many in NUMBERS],
    *[(word, text) for word in ("told", "not told") for text in RIGHT_TEXTS],
    *[("readings", text, many) for text in RIGHT_TEXTS for many in NUMBERS],
)

# What is neither a question nor a claim.
NEITHER = (
    ("text",), ("text", ("a",), 0), ("text", ("a",), ()), ("text", "a"), ("text", [("a",)]), ("text", *("a",)),
    ("readings",), ("readings", ("a",), 0, 0), ("readings", 0, ("a",)), ("told",), ("told", ("a",), 1), ("not told",),
    ("not told", ("a",), ("a",)), ("not", "told", ("a",)), ("any", 0), ("any", ()), ("any", ("a",)), ("nothing", 0),
    ("nothing", ()), ("longest", 0, 0), ("longest", ()), ("longest", ("a",)), ("longest", "any"), ("none",), ("all",),
    ("Text", ("a",)), ("texts", ("a",)), ("Longest",), ("reading", ("a",)), ("reading", ("a",), 1), ("shortest",),
    (("text", ("a",)),), (("longest",),), ((), ("a",)), (("a",), "text"), (b"text", ("a",)), (0, ("a",)), (("any",),),
    "longest", "any", "nothing", "text", (), [], {"any": 1}, {"longest": 1}, ("longest", None),
    (None, ("a",)), (True,), (EACH_SHAPE,), (EACH_SHAPE, ("a",)), *ODD_VALUES,
)


def rows(value):
    """The value with tuples of a class of their own."""
    return Row([rows(part) for part in value]) if isinstance(value, tuple) else value
