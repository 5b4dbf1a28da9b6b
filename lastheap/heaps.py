"""Heaps of programs."""

from lastheap.checks import is_from
from lastheap.errors import Misfit
from lastheap.sites import sites_of

# No word of a heap is beyond this one in either direction.
LARGEST = 2 ** 60


def places(program):
    """The names of the places, in order."""
    return list(sites_of(program).labels)


def empty_heap(program):
    return (0,) * len(sites_of(program).labels)


def check_heap(sites, heap):
    """Raise Misfit unless this is a heap of the program with these sites."""
    if len(heap) != len(sites.kinds):
        raise Misfit(len(heap))
    for place, word in enumerate(heap):
        if not fits_kind(sites, word, sites.kinds[place]):
            raise Misfit(place)


def fits_kind(sites, word, kind):
    """Whether a word may stand where this kind is wanted."""
    if kind == "word":
        return is_from(word, -LARGEST, LARGEST)
    return is_from(word, 0, sites.sizes[kind])
