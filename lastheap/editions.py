"""Leading a heap over to another program."""

from lastheap.errors import Misfit
from lastheap.heaps import check_heap, fits_kind
from lastheap.sites import sites_of


def led_over(old, new, heap):
    """The heap of the new program that keeps the words of an old one; raises Faulty and Misfit."""
    before = sites_of(old)
    after = sites_of(new)
    check_heap(before, heap)
    kept = {}
    for label, kind, word in zip(before.labels, before.kinds, heap):
        kept[label] = (kind, word)
    found = []
    for place, label in enumerate(after.labels):
        kind, word = kept.get(label, ("", 0))
        # What was of another kind is not kept, and 0 fits every kind.
        if kind != after.kinds[place]:
            word = 0
        if not fits_kind(after, word, after.kinds[place]):
            raise Misfit(place)
        found.append(word)
    return tuple(found)
