"""The greatest keep within candidates, found by taking rows out.

Rows of the candidates are told as (side, function, index), and a sum as
(scale, further, numbers), a dict from the parts of the rows at a site, with
such rows, to what is not 0. So a sum lasts as long as all rows that it needs
are there.
"""
from fallorflow.base.plain import at_vector
from fallorflow.hold.duties import fixed_rows, form_at, lot_at, lot_of, lots_ahead, rows_at, sites
from fallorflow.lots.answers import followed_each


class Growth:
    """What is left of candidates, with sums and what was taken out: a changing class."""

    def __init__(self, system, keep):
        self.made = system
        self.keep = keep
        self.left = {}
        for side, lots in enumerate(keep):
            for function, rows in enumerate(lots):
                self.left[(side, function)] = list(range(len(rows)))
        self.sites = sites(system)
        self.sums = {site: {} for site in self.sites}
        self.drops = []

    def now(self):
        """The keep that is left."""
        found = []
        for side, lots in enumerate(self.keep):
            found.append(tuple([
                tuple([rows[at] for at in self.left[(side, function)]]) for function, rows in enumerate(lots)
            ]))
        return tuple(found)

    def settle(self):
        """Take rows out till each duty that is left has a sum."""
        is_changed = True
        while is_changed:
            is_changed = False
            for site in self.sites:
                while self.settle_at(site):
                    is_changed = True

    def settle_at(self, site):
        """Find the sums that lack at a site; whether rows were taken out for it."""
        lot = lot_at(self.made, site)
        lacking = [at for at in self.left[lot] if at not in self.sums[site]]
        if not lacking:
            return False
        many, rows = rows_at(self.made, self.now(), site)
        forms = [form_at(self.made, site, many, lot_of(self.keep, lot)[at]) for at in lacking]
        answers = followed_each(many, rows, forms)
        points = [told for word, told in answers if word == "escapes"]
        for at, (word, told) in zip(lacking, answers):
            if word == "follows":
                self.sums[site][at] = self.told_by_rows(site, told)
        for at, form in zip(lacking, forms):
            # What holds at a point goes on to do so when rows are taken out.
            shown = [point for point in points if at_vector(form, point) < 0]
            if shown:
                self.drop(site, lot, at, shown[0])
        return bool(points)

    def told_by_rows(self, site, told):
        """A sum told by rows of the candidates."""
        scale, further, *numbers = told
        named = {}
        left = list(numbers)
        for part, rows in enumerate(self.rows_of(site)):
            for row, number in zip(rows, left):
                if number != 0:
                    key = (part, *row)
                    named[key] = number
            left = left[len(rows):]
        return (scale, further, named)

    def rows_of(self, site):
        """The rows at a site, part by part: those of candidates, others as rows of nothing."""
        found = []
        for lot in lots_ahead(self.made, site):
            if lot is None:
                found.append([(-1, 0, at) for at in range(fixed_rows(self.made, site))])
            else:
                found.append([(*lot, at) for at in self.left[lot]])
        return found

    def drop(self, site, lot, at, point):
        """Take a row out, its duty at a site being shown not to follow by a point."""
        self.drops.append(((*site, self.left[lot].index(at)), point))
        self.left[lot].remove(at)
        row = (*lot, at)
        for place in self.sites:
            found = self.sums[place]
            if lot_at(self.made, place) == lot:
                found.pop(at, None)
            self.sums[place] = {other: told for other, told in found.items() if not _names(told, row)}

    def paper(self):
        """The sums for all duties that are left, in their sequence."""
        found = []
        for site in self.sites:
            for at in self.left[lot_at(self.made, site)]:
                found.append(self.whole(site, self.sums[site][at]))
        return tuple(found)

    def whole(self, site, told):
        """A sum with numbers for the rows that are left."""
        scale, further, named = told
        numbers = []
        for part, rows in enumerate(self.rows_of(site)):
            numbers.extend([named.get((part, *row), 0) for row in rows])
        return (scale, further, *numbers)


def _names(told, row):
    return any([key[1:] == row for key in told[2]])
