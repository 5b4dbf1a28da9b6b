"""A memory, and what happened to it."""

from lastheap.errors import Busy, Idle, NoBack, NoImage
from lastheap.images import contents_of, whole_image
from lastheap.lines import check_layout
from lastheap.prefixes import prefix_of
from lastheap.recovery import recover
from lastheap.ring import blank
from lastheap.running import plain_run
from lastheap.runtime import translate
from lastheap.sites import sites_of


class Moment:
    """What a session knows at a time; it is never changed."""

    def __init__(self, contents, ended, current):
        # The contents of the memory, while a run is under way those at its beginning.
        self.contents = contents
        # For each ended run its arguments and the number of its blocks that are left.
        self.ended = ended
        # The arguments, the run and the trace under way, or None.
        self.current = current


class Session:
    """A program's memory, blank at first, with the runs that it went through."""

    def __init__(self, program, layout, slots):
        check_layout(layout, len(sites_of(program).kinds))
        self.program = program
        self.layout = layout
        self.slots = slots
        # The last one is the present; each change adds one.
        self.moments = [Moment(blank(layout, slots), (), None)]

    def now(self):
        """The heap to which recovery leads, while a run is under way the one at its beginning."""
        return recover(self.moments[-1].contents, self.layout, self.slots).heap

    def begin(self, arguments):
        """Run the program; raises Busy, BadCount and Wide."""
        moment = self.moments[-1]
        if moment.current is not None:
            raise Busy()
        run = plain_run(self.program, self.now(), arguments)
        trace = translate(run, self.layout, moment.contents, self.slots)
        self.moments.append(Moment(moment.contents, moment.ended, (tuple(arguments), run, trace)))
        return run

    def trace(self):
        """The current trace; raises Idle."""
        _, _, trace = self.under_way()
        return trace

    def run(self):
        """The run of the current trace; raises Idle."""
        _, run, _ = self.under_way()
        return run

    def cut(self, image):
        """End the current trace with an image; returns how many blocks survive; raises Idle and NoImage."""
        trace = self.trace()
        left = prefix_of(trace, image)
        if left is None:
            raise NoImage()
        self.end_run(contents_of(trace, image), left)
        return left

    def finish(self):
        """End the current trace with all its stores; returns the number of blocks; raises Idle."""
        trace = self.trace()
        left = len(trace.made)
        self.end_run(contents_of(trace, whole_image(trace)), left)
        return left

    def history(self):
        """The arguments and the numbers of blocks left of all ended runs."""
        return list(self.moments[-1].ended)

    def back(self):
        """Undo the last change; raises NoBack."""
        if self.many() == 0:
            raise NoBack()
        self.moments.pop()

    def many(self):
        """The number of changes that can be undone."""
        return len(self.moments) - 1

    def under_way(self):
        """The arguments, the run and the trace under way."""
        current = self.moments[-1].current
        if current is None:
            raise Idle()
        return current

    def end_run(self, contents, left):
        arguments, _, _ = self.under_way()
        ended = self.moments[-1].ended + ((arguments, left),)
        self.moments.append(Moment(contents, ended, None))
