"""Lines that are said to a desk: what each of them tells."""

from sameface.words import is_name, number_of

# How many names stand behind the first word of a line; behind those of "ask" any number of THINGs stand.
NAMES_BEHIND = {
    "drop": 1,
    "ask": 2,
    "names": 0,
    "face": 1,
    "making": 1,
    "alike": 2,
    "same": 2,
    "least": 1,
    "needed": 1,
    "looked": 0,
}
MOST_THING = 8


def in_a_line(rows):
    """The rows of a text in one line."""
    return " / ".join(rows)


def out_of_a_line(text):
    """The text that stands in a line."""
    return text.replace(" / ", "\n")


def thing_by(word):
    """What a word tells where a THING is wanted, a name or a number; None where it is none."""
    if is_name(word):
        return word
    number = number_of(word)
    return number if number is not None and number <= MOST_THING else None


def told_by_words(words, many):
    """So many names, behind them a tuple of THINGs, in a list; None where words lack, or one is none of these."""
    names = words[:many]
    things = tuple([thing_by(word) for word in words[many:]])
    if len(names) < many or None in things or not all([is_name(name) for name in names]):
        return None
    return [*names, things]


def label_and_text(told):
    """[LABEL, TEXT] of a label, a blank, and a text, perhaps nothing; None where it doesn't begin so."""
    label, blank, text = told.partition(" ")
    if not is_name(label) or blank == "":
        return None
    return [label, out_of_a_line(text)]


def uses_told(told):
    """For each use that "begin" tells [LABEL, FACE, MAKING], the last two as texts; None where it tells none so."""
    pieces = told.split(" ; ")
    if len(pieces) % 2 == 1:
        return None
    uses = []
    for first, making in zip(pieces[::2], pieces[1::2]):
        use = label_and_text(first)
        if use is None:
            return None
        uses.append([*use, out_of_a_line(making)])
    return uses


def told_in(line):
    """(WORD, TOLD): what a line is called by, and a list of what it tells; None of anything that is no line."""
    if not isinstance(line, str) or "\n" in line:
        return None
    first, blank, behind = line.partition(" ")
    words = line.split(" ")
    word = first
    if words[1:2] == ["="]:
        word = "="
        told = told_by_words([first, *words[2:]], 3)
    elif first == "begin":
        told = uses_told(behind)
    elif first == "change":
        told = label_and_text(behind)
    elif first in NAMES_BEHIND:
        told = told_by_words(words[1:], NAMES_BEHIND[first])
        if told is not None and told[-1] and first != "ask":
            told = None
    else:
        told = None
    return None if told is None else (word, told)
