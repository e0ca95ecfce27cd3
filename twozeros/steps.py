"""Formulas and sayings as rows of steps, each operation behind its operands; how they are written and read."""

# How tightly an operation binds; what is no operation binds tighter than all of them.
LEVELS = {"~": 4, "*": 3, "&": 3, "+": 2, "-": 2, "^": 2, "<<": 1, ">>": 1, "|": 1}
TIGHTEST = 5

# In a row of steps * and the turns have one operand, since their number is a part of the step.
OPERANDS = {"~": 1, "*": 1, "<<": 1, ">>": 1, "+": 2, "-": 2, "&": 2, "^": 2, "|": 2}

LETTERS = "abcdefghijklmnopqrstuvwxyz"
DIGITS = "0123456789"


def folded(steps, made):
    """What made(sign, worth, operands) makes of the last step; operands is what it made of the step's operands."""
    waiting = []
    for sign, worth in steps:
        ahead = len(waiting) - OPERANDS.get(sign, 0)
        operands = waiting[ahead:]
        del waiting[ahead:]
        waiting.append(made(sign, worth, operands))
    return waiting[-1]


def joined_written(left, sign, right):
    """The text of a sign between two formulas or sayings."""
    before = f"({left.written})" if left.level < LEVELS[sign] else left.written
    return f"{before} {sign} {right_written(right, sign)}"


def right_written(part, sign):
    """The text of what stands on the right of a sign between two operands."""
    return f"({part.written})" if part.level <= LEVELS[sign] else part.written


def complement_written(part):
    """The text of the complement of a formula or saying."""
    return f"~({part.written})" if part.level < LEVELS["~"] else f"~{part.written}"


def split_tokens(text):
    """The words, numbers and signs of a text; a word with a bracket directly behind it goes to the closing one."""
    tokens = []
    at = 0
    while at < len(text):
        end = token_end(text, at)
        if text[at] != " ":
            tokens.append(text[at:end])
        at = end
    return tokens


def token_end(text, at):
    """Where the token that begins at this place ends."""
    if text[at] in LETTERS:
        end = run_end(text, at, LETTERS)
        return closing_end(text, end) if text[end:end + 1] == "(" else end
    if text[at] in DIGITS:
        return run_end(text, at, DIGITS)
    return at + 2 if text[at:at + 2] in LEVELS else at + 1


def run_end(text, at, letters):
    """Where the run of such letters that begins at this place ends."""
    end = at
    while end < len(text) and text[end] in letters:
        end = end + 1
    return end


def closing_end(text, at):
    """The place behind the bracket that closes the one at this place, or the end of the text."""
    depth = 0
    for end in range(at, len(text)):
        if text[end] == "(":
            depth = depth + 1
        if text[end] == ")":
            depth = depth - 1
        if depth == 0:
            return end + 1
    return len(text)


def arranged(tokens):
    """The tokens in the order of steps: each sign behind its operands, and no brackets that belong together."""
    placed = []
    signs = []
    for token in tokens:
        if token in ("~", "("):
            signs.append(token)
        elif token == ")":
            while signs and signs[-1] != "(":
                placed.append(signs.pop())
            if signs:
                signs.pop()
            else:
                # A bracket that has no other one stays, and is taken for a name, which it is not.
                placed.append(token)
        elif token in LEVELS:
            while signs and LEVELS.get(signs[-1], 0) >= LEVELS[token]:
                placed.append(signs.pop())
            signs.append(token)
        else:
            placed.append(token)
    return placed + signs[::-1]


def built(tokens, made):
    """What made(token, operands) makes of the last one of arranged tokens; None if operands lack or are left over.

    Brackets and blanks that should not be there are not noticed: whoever reads a text has to compare it with the
    written form of what comes out.
    """
    waiting = []
    for token in tokens:
        ahead = len(waiting) - many_operands(token)
        if ahead < 0:
            return None
        operands = waiting[ahead:]
        del waiting[ahead:]
        waiting.append(made(token, operands))
    return waiting[0] if len(waiting) == 1 else None


def many_operands(token):
    """How many operands a token of a text has."""
    if token not in LEVELS:
        return 0
    return 1 if token == "~" else 2
