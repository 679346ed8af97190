"""Tables packed into numbers, unpacked again, and such numbers looked at.

Shapes and sayings lie in the cells as blocks: the number of cells behind it, and these cells.
"""

from callmill.machines import MOST_STANDINGS
from callmill.share import counted

# The numbers of rooms, of sayings and of shapes, and the beginning's saying.
HEAD = 4


def pack(table):
    """The pack of a table: (events, texts, cells)."""
    rooms = table[2]
    sayings = counted(sayings_of(table))
    rows = [pairs_of(room, sayings) for room in rooms]
    shapes = counted(rows)
    texts = texts_in(list(sayings))
    places = counted(texts)
    cells = [len(rooms), len(sayings), len(shapes), sayings[tuple(table[1])]]
    for room, row in zip(rooms, rows):
        cells.append(2 * shapes[row] + (1 if room[0] else 0))
    for shape in shapes:
        cells.extend(block(shape_cells(shape)))
    for saying in sayings:
        cells.extend(block([places[text] for text in saying]))
    return (list(table[0]), texts, cells)


def sayings_of(table):
    """All that the table says, as tuples: at the beginning, then room by room, event by event."""
    found = [tuple(table[1])]
    for room in table[2]:
        found.extend([tuple(said) for said, way in room[1]])
    return found


def pairs_of(room, sayings):
    """The room's row as a tuple of pairs (saying's number, next room)."""
    return tuple([(sayings[tuple(said)], way) for said, way in room[1]])


def texts_in(sayings):
    """The texts of these sayings, sorted, each once."""
    found = []
    for saying in sayings:
        found.extend(saying)
    return sorted(set(found))


def block(cells):
    """The cells with their number ahead."""
    return [len(cells)] + cells


def shape_cells(shape):
    """The shape's common pair, and for each event that does otherwise its place and pair."""
    common = common_pair(shape)
    cells = [common[0], common[1]]
    for place, pair in enumerate(shape):
        if pair != common:
            cells.extend([place, pair[0], pair[1]])
    return cells


def common_pair(shape):
    """The pair that stands in the shape most often, of such the one that is met first."""
    counts = {}
    for pair in shape:
        counts[pair] = counts.get(pair, 0) + 1
    most = max(counts.values())
    return [pair for pair in counts if counts[pair] == most][0]


def unpacked(pack):
    """The table of a whole pack."""
    cells = pack[2]
    shapes = block_places(cells, HEAD + cells[0], cells[2])
    sayings = block_places(cells, shapes[-1], cells[1])
    rooms = []
    for cell in cells[HEAD:HEAD + cells[0]]:
        pairs = pairs_in(cells, shapes[cell // 2], len(pack[0]))
        rooms.append((cell % 2 == 1, [(texts_at(pack[1], cells, sayings[saying]), way) for saying, way in pairs]))
    return (list(pack[0]), texts_at(pack[1], cells, sayings[cells[3]]), rooms)


def block_places(cells, place, count):
    """The places of so many blocks from this place on, and the one behind them; None where the cells end ahead."""
    found = [place]
    while len(found) <= count:
        if place >= len(cells) or cells[place] < 0:
            return None
        place += 1 + cells[place]
        found.append(place)
    return found if place <= len(cells) else None


def texts_at(texts, cells, place):
    """The texts of the saying whose block lies at this place."""
    return [texts[number] for number in cells_in(cells, place)]


def cells_in(cells, place):
    """The cells of the block at this place, without their number."""
    return cells[place + 1:place + 1 + cells[place]]


def pairs_in(cells, place, count):
    """The pairs (saying's number, next room) of the shape at this place, one for each of so many events."""
    pairs = [(cells[place + 1], cells[place + 2])] * count
    for event, saying, way in others_in(cells_in(cells, place)):
        pairs[event] = (saying, way)
    return pairs


def others_in(shape):
    """The tuples (event's place, saying's number, next room) of a shape's cells, for events that do otherwise."""
    return [tuple(shape[place:place + 3]) for place in range(2, len(shape), 3)]


def whole_pack(events, texts, cells):
    """Whether the cells are in form what a pack's are beside these events and texts."""
    if len(cells) < HEAD or not 1 <= cells[0] <= MOST_STANDINGS or not 0 <= cells[3] < cells[1]:
        return False
    shapes = block_places(cells, HEAD + cells[0], cells[2])
    if shapes is None:
        return False
    sayings = block_places(cells, shapes[-1], cells[1])
    if sayings is None or sayings[-1] != len(cells):
        return False
    for place in shapes[:-1]:
        if not whole_shape(cells_in(cells, place), cells, len(events)):
            return False
    for place in sayings[:-1]:
        if not all([0 <= number < len(texts) for number in cells_in(cells, place)]):
            return False
    return whole_rooms(cells, shapes, sayings, len(events))


def whole_shape(shape, cells, count):
    """Whether these are a shape's cells: its places rise and are of so many events, its sayings and rooms are there."""
    if len(shape) % 3 != 2:
        return False
    ahead = -1
    pairs = [(shape[0], shape[1])]
    for event, saying, way in others_in(shape):
        if not ahead < event < count:
            return False
        ahead = event
        pairs.append((saying, way))
    return all([0 <= saying < cells[1] and 0 <= way < cells[0] for saying, way in pairs])


def whole_rooms(cells, shapes, sayings, count):
    """Whether each room's shape is there, and each over room says nothing and leads to itself at each event."""
    for room, cell in enumerate(cells[HEAD:HEAD + cells[0]]):
        if not 0 <= cell // 2 < cells[2]:
            return False
        if cell % 2 == 1:
            for saying, way in pairs_in(cells, shapes[cell // 2], count):
                if way != room or cells[sayings[saying]] != 0:
                    return False
    return True
