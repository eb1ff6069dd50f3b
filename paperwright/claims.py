"""Claims: their words, of what kinds the parts behind a word are, and of what kind the claim's paper is."""

from paperwright.kinds import fits

# For each word the kinds of the claim's parts behind it, and the kind of its paper.
WORDS = {
    "common": (("row", "row", "row"), ("row", "row", "row", "row")),
    "bare": (("row",), ("row", "row")),
    "unsplit": (("whole row",), "wholeness"),
    "split": (("row", "fraction", "parts"), "wholenesses"),
    "roots": (("row", "stretches"), ("row", "row")),
    "same": (("text", "text"), "nothing"),
    "unlike": (("text", "text"), "point"),
    "sign": (("row", "root", "number"), ("wholeness", "fraction", "fraction")),
    "plus": (("root", "root", "root"), ("wholenesses", "row", "stretches")),
    "times": (("root", "root", "root"), ("wholenesses", "row", "stretches")),
    "parted": (("quotient", "row", "pieces"), "wholenesses"),
    "sum": (("quotient", "quotient"), "nothing"),
    "area": (("quotient", "quotient"), "nothing"),
    "no sum": (("quotient",), ("quotient", "quotient", "shown parts")),
    "no area": (("quotient",), ("quotient", "quotient", "nothing")),
}


# Whether the thing is written as a claim must be. (Whether it is true is asked by the checker.)
def is_claim(thing):
    if not isinstance(thing, tuple) or len(thing) == 0 or not isinstance(thing[0], str):
        return False
    return thing[0] in WORDS and fits(WORDS[thing[0]][0], thing[1:])


# Whether the thing is written as a paper for claims of this word must be.
def is_paper(word, thing):
    return fits(WORDS[word][1], thing)
