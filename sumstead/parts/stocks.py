"""Stocks: the cells of some leaves of a side, at several moments."""


class Stock:
    """What a part, or its copy, keeps: for each moment the cells with a leaf of its stretch at one side."""

    def __init__(self, at, stretch, begin, rows):
        self.side_at = at
        self.stretch = stretch
        self.begin = begin
        self.moment_rows = rows

    def moment(self):
        """The moment that was fetched last."""
        return self.begin + len(self.moment_rows) - 1

    def cells_at(self, moment):
        """The dict of the cells at a moment that is kept."""
        row = self.moment_rows[moment - self.begin]
        return {place: row[place] for place in row}

    def fetch(self, changes):
        """Takes over the changes that come next, as far as it has cells there."""
        row = self.moment_rows[-1]
        cells = {place: row[place] for place in row}
        for place in changes:
            if place[self.side_at] in self.stretch:
                cells[place] = changes[place]
        self.moment_rows.append({place: cells[place] for place in cells if cells[place] is not None})

    def forget(self, moment):
        """Keeps no moment ahead of this one."""
        self.moment_rows = self.moment_rows[moment - self.begin:]
        self.begin = moment

    def twin(self):
        """A stock like this one, with cells of its own."""
        rows = [{place: row[place] for place in row} for row in self.moment_rows]
        return Stock(self.side_at, self.stretch, self.begin, rows)


def _cells_in(at, stretch, cells):
    return {place: cells[place] for place in cells if place[at] in stretch}


def first_stock(at, stretch, cells):
    """The stock of a stretch at the moment 0."""
    return Stock(at, stretch, 0, [_cells_in(at, stretch, cells)])


def cut_anew(one, other, stretches):
    """Two stocks side by side, of one moment, with their cells parted into other stretches."""
    wholes = [joined_cells([one, other], one.begin + count) for count in range(len(one.moment_rows))]
    return [Stock(one.side_at, stretch, one.begin, [_cells_in(one.side_at, stretch, cells) for cells in wholes])
            for stretch in stretches]


def joined_cells(stocks, moment):
    """The dict of the cells of several stocks at a moment."""
    found = {}
    for stock in stocks:
        cells = stock.cells_at(moment)
        for place in cells:
            found[place] = cells[place]
    return found
