"""Heads: what is heard of REELS that run evenly, forward or backward, and what of it is lost or false."""

from flutterheld.blockread import read_slots, told_turned
from flutterheld.blocks import block_of_row, full_row
from flutterheld.fractions import whole
from flutterheld.rows import cells_of


def calm(form, beginning):
    """The HEARING of a BEGINNING, each cell lasting just cell, the first one from 0 on."""
    if beginning is None:
        return ()
    return tuple([whole(form[0][0] * cell) for cell in cells_of(beginning)])


def calm_reel(form, reel):
    return tuple([calm(form, beginning) for beginning in reel])


def read_back(form, heard):
    """What is told of each SLOT of a REEL that runs backward, SLOT 0 first; heard has the last SLOT first."""
    return tuple([told_turned(form, hearing) for hearing in heard[::-1]])


def lost_places(form, reel, heard):
    """The LOT of the places where the FULL ROW of a BLOCK stands, and none is told."""
    told = read_slots(form, heard)
    return tuple([place for place, beginning in enumerate(reel)
                  if told[place] is None and block_of_row(form, beginning) is not None])


def false_places(form, reel, heard):
    """The LOT of the places where a BLOCK is told whose FULL ROW does not stand there."""
    told = read_slots(form, heard)
    return tuple([place for place, beginning in enumerate(reel)
                  if told[place] is not None and full_row(form, told[place]) != beginning])
