"""Bills: where a sharing leaves worth, under any prices."""

from weirkeepers.checks import need_weirs
from weirkeepers.errors import NotSharing
from weirkeepers.sharings import fits
from weirkeepers.worths import rent, way_price


def bill(day, worths, prices, sharing):
    """A list of rows (sort, weir or name, cubes, each), the products of which are the ceiling less the worth."""
    rights = day.rights
    need_weirs(rights.river, prices)
    if not fits(day, sharing):
        raise NotSharing(None)
    rows = [("idle", weir, day.water(weir) - sharing.use(weir), prices.get(weir, 0)) for weir in rights.river.weirs]
    rows.extend([("unmet", name, day.call(name) - cubes, rent(worths, prices, name)) for name, cubes in sharing])
    rows.extend([("dear", name, cubes, max(0, way_price(rights, prices, name) - worths[name]))
                 for name, cubes in sharing])
    return [row for row in rows if row[2] > 0 and row[3] > 0]
