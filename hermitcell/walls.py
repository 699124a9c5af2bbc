"""Worlds in which one wall is left out (point [62])."""

from hermitcell.errors import NotValid
from hermitcell.memory import Memory
from hermitcell.world import World

WALLS = (
    "wipe", "fresh", "source", "measured", "free", "wait", "again", "rows", "destroyed", "early", "alive", "counts",
    "once", "target", "version",
)


class WeakWorld(World):
    """A world without a wall; with None nothing is left out.

    What is left out stands where the wall stands: in the memory and in the calls, which are told of it.
    """

    def __init__(self, monitor, wall, known=None):
        if wall is not None and (type(wall) is not str or wall not in WALLS):
            raise NotValid()
        super().__init__(monitor, known)
        self._without = wall
        self._memory = Memory(wall)

    def copy_with(self, known):
        """A world in the same state without the same wall, with the same view, whose host knows this."""
        other = WeakWorld(self.monitor, self._without, known)
        self._give_state(other)
        return other
