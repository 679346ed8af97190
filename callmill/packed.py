"""The machine of packed tables."""

from callmill.machines import Machine
from callmill.packs import HEAD, block_places, cells_in, others_in, texts_at
from callmill.tables import place_of, places_by


class PackMachine(Machine):
    """The machine of a whole pack; it stands at rooms' numbers."""

    def __init__(self, pack):
        self.places = places_by(pack[0])
        self.texts = list(pack[1])
        self.cells = list(pack[2])
        # Where shapes and sayings lie is told nowhere in the cells, and is looked up once.
        self.shapes = block_places(self.cells, HEAD + self.cells[0], self.cells[2])
        self.sayings = block_places(self.cells, self.shapes[-1], self.cells[1])

    def begin(self):
        """Stands in the first room."""
        return (self.said_by(self.cells[HEAD - 1]), 0)

    def step(self, standing, event):
        """Goes by the room's shape."""
        shape = cells_in(self.cells, self.shapes[self.cells[HEAD + standing] // 2])
        event_place = place_of(self.places, event)
        for place, saying, way in others_in(shape):
            if place == event_place:
                return (self.said_by(saying), way)
        return (self.said_by(shape[0]), shape[1])

    def over(self, standing):
        """Whether the room is over."""
        return self.cells[HEAD + standing] % 2 == 1

    def values(self, standing):
        """A pack has no boxes."""
        return ()

    def said_by(self, saying):
        """The texts of a saying."""
        return texts_at(self.texts, self.cells, self.sayings[saying])
