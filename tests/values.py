"""What several tests need: any values, and sums by the plainest reading of the document."""

from twozeros.boxes import Box, Look, LookMend, Mend
from twozeros.chains import Chain
from twozeros.desk import Desk
from twozeros.formulas import named, number
from twozeros.forms import Form
from twozeros.layouts import Layout
from twozeros.messages import Message
from twozeros.receivers import Sparing, Summing
from twozeros.rings import Ring
from twozeros.sayings import is_empty, yes
from twozeros.stairs import stairs
from twozeros.tables import table
from twozeros.totals import Running
from twozeros.widthsets import Widths
from twozeros.words import Word

WIDTHS = (1, 2, 3, 4, 7, 8, 31, 32, 63, 64)


def no_integers():
    """Values of every sort that are neither integers nor words."""
    return plain_values() + objects_of_messages()


def objects_of_messages():
    """Objects of layouts, messages, receivers, boxes, chains, rings and desks."""
    layout = Layout(["a", "b"], [("c", "a", "b")])
    message = Message(layout, 4, {"a": 9})
    return [
        layout, message, {"a": message}, (layout, [message]), Summing(), Sparing(), Box("a"), Box("a", ("b", named("c"))),
        Mend("a", "c", "a", "n"), Look("a", yes()), LookMend("a", yes(), "c", "a", "n"), [Box("a")], Summing,
        Chain(), Chain(Box("a")), Ring(("a",), [("c", (("a", 1),))]), Desk(), {"a": Chain()}, (Desk(),),
    ]


def plain_values():
    """Plain values and objects of words, formulas, sayings and what is counted of them."""
    return [
        None, True, False, "", "1", "0101", "word", [], [0], [1, [2, [3]]], (), (1,), (1, 2), (None, "a"),
        {}, {"a": 1}, {"width": 4, "value": 6}, [Word(4, 6)], Running(4), Word,
        named("a"), number(3), named("a") + 3, Form({"a": 1}), Form({}, 3), is_empty(named("a")), yes(), stairs([[1]]),
        [named("a")], {"a": named("a")}, (Form({}), yes()), Widths.every(), Widths.of(3), table(yes()), [Widths.none()],
    ]


def some_values(width):
    """Values of words: both zeros, those next to them and some between."""
    most = 2 ** width - 1
    return sorted({0, 1, most // 2, most // 3, most * 5 // 7, most - 1, most})


def added(width, x, y):
    """The sum as [o2] tells it."""
    most = 2 ** width - 1
    return x + y if x + y <= most else x + y - most


def added_times(width, k, x):
    """x added k times, one after another."""
    so_far = 0
    for _ in range(k):
        so_far = added(width, so_far, x)
    return so_far


def turned_bits(bits, places):
    """The bits turned one place at a time towards the highest bit, or back if places is below 0."""
    for _ in range(abs(places)):
        bits = bits[1:] + bits[:1] if places > 0 else bits[-1:] + bits[:-1]
    return bits


def bits_of(width, value):
    return format(value, "b").zfill(width)


def raised(test, error, action, **attributes):
    """Check that action raises just this error, with these very attributes."""
    with test.assertRaises(error) as caught:
        action()
    test.assertIs(type(caught.exception), error)
    test.assertEqual(sorted(vars(caught.exception)), sorted(attributes))
    for name, wanted in attributes.items():
        found = getattr(caught.exception, name)
        if isinstance(wanted, (int, str)) and not isinstance(wanted, bool):
            test.assertEqual((type(found), found), (type(wanted), wanted))
        else:
            test.assertIs(found, wanted)
