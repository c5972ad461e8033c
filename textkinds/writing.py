"""Shapes written as texts."""

from textkinds.shapes import inner_shapes

# For each word that takes two shapes, the sign between them; for each that takes one, the sign ahead of it.
BETWEEN = {"then": " ", "or": "|", "and": "&"}
AHEAD = {"not": "!", "many": "*"}


def written(shape):
    """The text that writes the shape."""
    pieces = []
    # A list of what is still to write, texts and shapes, for told shapes may be deeper than calls may be.
    waiting = [shape]
    while waiting:
        part = waiting.pop()
        if isinstance(part, str):
            pieces.append(part)
        else:
            waiting.extend(pieces_of(part)[::-1])
    return "".join(pieces)


def pieces_of(shape):
    """What a shape's text is put together of: texts, and the shapes that stand in it."""
    word = shape[0]
    if word == "none":
        return ["{}"]
    if word == "empty":
        return ["()"]
    if word == "signs":
        return [shape[1] if len(shape[1]) == 1 else "[" + shape[1] + "]"]
    inner = inner_shapes(shape)
    if word in AHEAD:
        return [AHEAD[word], inner[0]]
    return ["(", inner[0], BETWEEN[word], inner[1], ")"]
