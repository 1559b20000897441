"""A message whose writing has a piece in it."""

from alikewritten.errors import NoPiece
from alikewritten.ways import least_way
from alikewritten.writers import check_writer, is_word


# A place is a state and how much of the piece stands, begun, at the end of what
# is written on coming there: no more of it matters to what is written later.
def with_piece(writer, piece):
    check_writer(writer)
    check_piece(piece)

    def steps(place):
        row = writer[1][place[0]]
        return [(sign, (step[1], begun(piece, place[1] + step[0]))) for sign, step in enumerate(row)]

    def is_end(place):
        return piece in place[1] + writer[2][place[0]]

    return least_way((0, ""), steps, is_end)


def check_piece(piece):
    if piece == "" or not is_word(piece):
        raise NoPiece("this is no piece")


# The longest beginning is kept: every shorter one that the text ends with lies
# at the end of it. A piece that is whole stays whole, wherever it stands.
def begun(piece, text):
    if piece in text:
        return piece
    for size in range(len(piece) - 1, 0, -1):
        if text.endswith(piece[:size]):
            return piece[:size]
    return ""
