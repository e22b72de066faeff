"""Objects and checks that several tests share."""

import random

from overstamps.bands import Band, Line, Ring, Window
from overstamps.stamps import Stamps
from tests import model

BIG = 10 ** 60 - 1


def deep(depth):
    thing = "ab"
    for _ in range(depth):
        thing = [thing]
    return thing


def odd_things():
    """Objects that are no text, no strip, no list of words, stampings or parts."""
    stamps = Stamps("ab", "ba")
    return [
        None, True, False, 0, 1, -1, BIG, -BIG, "", "AB", "aB", "a b", " ab", "ab ", "a1", "7", "ab\n", "\nab", "a\nb",
        "a-b", "a,b", "a?", "a~", "`", "{", "@", "[", "a" * 4000, "." * 4000, "a" * 121, stamps, Line(stamps),
        Window(stamps), Ring(stamps), Band(stamps), (), {}, {"a": "ab"}, {"ab": 1}, ("ab",), ("a", "b"), ((0, 0),),
        [None], [True], [0], [[]], [()], [{}], ["ab", None], ["a", ["b"]], deep(5), [0] * 2999, ["ab"] * 2999,
    ]


def bad_texts(kind):
    """Objects that are no text of the band, although some are strips, or texts of another band."""
    more = [[], ".", "..", "a.", ".a", "a.b", "ab.", "A", "abA", "ab ", "ab\n", "a" * 121, "." * 120, ["ab"]]
    if kind == "ring":
        more = more + ["a" * 61, "ab" * 31, "a" * 120]
    return odd_things() + more


def raised(test, kind, call, *given, **named):
    """Check that a call raises an error of exactly this class."""
    try:
        result = call(*given, **named)
    except Exception as error:
        test.assertIs(type(error), kind, f"{given} {named}: {error!r}")
        return error
    test.fail(f"{given} {named}: no {kind.__name__}, but {result!r}")


def long_stamps():
    """Lists of words up to the limits that the document names."""
    return [
        ["a"], ["b", "a"], ["a", "b", "c", "d", "e", "f"], ["ab", "ba", "aa"], ["aaaa", "aaab", "baaa"],
        ["abc", "bca", "cab", "aab", "abb"], ["abcdef", "fedcba", "abcabc", "aaaaaa", "ababab", "bababa"],
        ["aabbaa", "aaabbb", "bbbaaa", "baabba", "abbaab", "bbabba"],
        ["abababa", "abcabca", "aaaabbb", "ccabbac", "cabcabc"],
        ["abcdefgh"], ["aaaaaaaa"], ["aaaaaaaa", "aaaabaaa", "abababab", "bbbaabbb"], ["zzzzzzzy", "yzzzzzzz"],
    ]


def drawn_stamps(chance):
    """Words up to the limits that the document names, drawn: one to six, of one to eight letters, at most 36 letters."""
    width = chance.randint(1, 8)
    many = chance.randint(1, min(6, 36 // width))
    letters = chance.choice(["ab", "ab", "abc", "abcdef"])
    words = {"".join(chance.choice(letters) for _ in range(width)) for _ in range(many)}
    return chance.sample(sorted(words), len(words))


def most_cells(kind):
    return 60 if kind == "ring" else 120


def mirrored(parts, size, width):
    """The parts of a splitting read backward, with words that are read backward."""
    found = []
    for place, word, offset, length in parts:
        found.append(((size - place - length) % size, word, width - offset - length, length))
    return sorted(found)


def turned(parts, size, far):
    """The parts of a splitting of a ring that begins so many cells later."""
    return sorted(((part[0] - far) % size,) + part[1:] for part in parts)


def filled_by_history(kind, size, words, seed):
    """A history that leaves no empty cell, of at most 200 stampings, and the text at its end."""
    chance = random.Random(seed)
    every = model.stampings(kind, size, words)
    history = [chance.choice(every) for _ in range(chance.randint(1, 60))]
    text = model.ended(kind, size, words, history)
    while "." in text:
        empty = text.index(".")
        near = [row for row in every if empty in model.cells_under(kind, size, len(words[0]), row[1])]
        history.append(chance.choice(near))
        text = model.ended(kind, size, words, history)
    return history, text


def filled_sparsely(kind, size, words, seed):
    """A history with few stampings on top of each other, and the text at its end."""
    chance = random.Random(seed)
    every = model.stampings(kind, size, words)
    history = []
    text = "." * size
    while "." in text:
        empty = chance.choice([cell for cell in range(size) if text[cell] == "."])
        near = [row for row in every if empty in model.cells_under(kind, size, len(words[0]), row[1])]
        history.append(chance.choice(near))
        text = model.ended(kind, size, words, history)
    return history, text
