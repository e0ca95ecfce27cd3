"""A desk that does lines: it keeps formulas, sayings, a layout, a message and a chain, and answers questions."""

from twozeros.boxes import Anew, Look, Mend
from twozeros.chains import Chain, lost
from twozeros.counts import count, example
from twozeros.errors import BadLine, NoWord, ZerosError
from twozeros.formulas import Formula
from twozeros.layouts import Layout
from twozeros.lines import read_line
from twozeros.messages import Message
from twozeros.tables import always, compared, sometimes

NEED_LAYOUT = ("begin", "mend", "look", "anew", "boxes", "lost")
NEED_MESSAGE = ("set", "renew", "send", "message", "takes")


class State:
    """What a desk knows at one time: the formulas and sayings by their names, and a message's layout and chain.

    No state ever changes, and its message does not either: so each change can be taken back.
    """

    def __init__(self, kept, layout, message, chain):
        self.kept = kept
        self.layout = layout
        self.message = message
        self.chain = chain


class Desk:
    """Does lines, and can take back what they changed."""

    def __init__(self):
        self.state = State({}, None, None, Chain())
        self.older = []

    @property
    def kept_names(self):
        """The names under which a formula or a saying is kept, ascending."""
        return tuple(sorted(list(self.state.kept), key=str))

    def say(self, line):
        """Do a line, any value, and return the answer."""
        word, parts = read_line(line)
        check_needs(self.state, word)
        if word == "undo":
            return self._undone()
        if word in ANSWERS:
            answer = ANSWERS[word]
            return answer(self.state, parts)
        change = CHANGES[word]
        state = change(self.state, parts)
        self.older = [*self.older, self.state]
        self.state = state
        return "ok"

    def run(self, *lines):
        """Do all lines and return the answers, or change nothing."""
        older, state = self.older, self.state
        try:
            return [self.say(line) for line in lines]
        except ZerosError:
            self.older = older
            self.state = state
            raise

    def __len__(self):
        return len(self.older)

    def _undone(self):
        """Take back the last change."""
        if not self.older:
            return "nothing"
        self.state = self.older[-1]
        self.older = self.older[:-1]
        return "ok"


def check_needs(state, word):
    """Raise an error if a line with this first word needs what there is not."""
    if word in NEED_LAYOUT and state.layout is None:
        raise BadLine()
    if word in NEED_MESSAGE and state.message is None:
        raise BadLine()


def put_in(state, part):
    """A formula or saying with the kept formulas in the places of their names."""
    return part.replaced({name: kept for name, kept in state.kept.items() if isinstance(kept, Formula)})


def with_message(state, message):
    """The state with another message."""
    return State(state.kept, state.layout, message, state.chain)


def with_box(state, box):
    """The state with one more box at the end of the chain."""
    return State(state.kept, state.layout, state.message, state.chain + Chain(box))


# Each function of a line takes the state and the line's parts: those of changes return another state, so that the older
# one can come back, and those of questions a text.


def keep(state, parts):
    name, part = parts
    return State({**state.kept, name: put_in(state, part)}, state.layout, state.message, state.chain)


def forget(state, parts):
    name = parts[0]
    if name not in state.kept:
        raise NoWord(name)
    kept = {other: part for other, part in state.kept.items() if other != name}
    return State(kept, state.layout, state.message, state.chain)


def lay_out(state, parts):
    words, checks = parts
    return State(state.kept, Layout(words, checks), None, Chain())


def begin(state, parts):
    width, given = parts
    return with_message(state, Message(state.layout, width, given))


def set_word(state, parts):
    name, value = parts
    message = state.message.twin()
    message[name] = value
    return with_message(state, message)


def renew_checks(state, parts):
    message = state.message.twin()
    if parts[0]:
        message.renew(parts[0][0])
    else:
        message.renew()
    return with_message(state, message)


def add_mend(state, parts):
    name, check, word, new, sort = parts
    return with_box(state, Mend(name, check, word, new, sort=sort))


def add_look(state, parts):
    name, saying = parts
    return with_box(state, Look(name, put_in(state, saying)))


def add_anew(state, parts):
    name, check = parts
    return with_box(state, Anew(name, state.layout, check))


def drop_boxes(state, parts):
    return State(state.kept, state.layout, state.message, Chain())


def send(state, parts):
    chain = state.chain
    return with_message(state, chain(state.message, parts[0]))


def tell_value(state, parts):
    width, given, formula = parts
    return str(put_in(state, formula).value_at(width, given))


def tell_holds(state, parts):
    width, given, saying = parts
    return yes_or_no(put_in(state, saying).holds_at(width, given))


def tell_count(state, parts):
    width, saying = parts
    return str(count(put_in(state, saying), width))


def tell_example(state, parts):
    width, saying = parts
    asked = put_in(state, saying)
    found = example(asked, width)
    if found is None:
        return "none"
    return written_values(asked.names, found) if found else "any"


def tell_always(state, parts):
    return str(always(put_in(state, parts[0])))


def tell_sometimes(state, parts):
    return str(sometimes(put_in(state, parts[0])))


def compare(state, parts):
    one, other = parts
    return " ; ".join([str(widths) for widths in compared(put_in(state, one), put_in(state, other))])


def show(state, parts):
    if parts[0] not in state.kept:
        raise NoWord(parts[0])
    return str(state.kept[parts[0]])


def tell_message(state, parts):
    return written_values(state.layout.names, state.message.plain_words())


def tell_takes(state, parts):
    receiver, check = parts
    return yes_or_no(receiver(state.message, check))


def tell_lost(state, parts):
    before, behind, check = parts
    return str(lost(state.chain, state.layout, before, behind, check))


def written_values(names, values):
    """The values of these names, as lines write them."""
    return " ".join([f"{name}={values[name]}" for name in names])


def yes_or_no(truth):
    return "yes" if truth else "no"


CHANGES = {
    "formula": keep, "saying": keep, "forget": forget, "layout": lay_out, "begin": begin, "set": set_word,
    "renew": renew_checks, "mend": add_mend, "look": add_look, "anew": add_anew, "boxes": drop_boxes, "send": send,
}
ANSWERS = {
    "value": tell_value, "holds": tell_holds, "count": tell_count, "example": tell_example, "always": tell_always,
    "sometimes": tell_sometimes, "compare": compare, "show": show, "message": tell_message, "takes": tell_takes,
    "lost": tell_lost,
}
