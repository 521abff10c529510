"""Rooms shared as cheaply as can be, with prices and fees that show it."""

from openhouses.fars import site_fars
from openhouses.fillings import Filling, lack_of
from openhouses.rows import are_folk_rows, are_rows
from openhouses.wholes import is_whole, is_whole_from


def least_share(case, opening, rooms):
    """("share", share, prices, fees), the share costing just the low of the prices and fees; or ("lack", lack)."""
    folk = case[2]
    aways = site_fars(case)
    filling = Filling(rooms, {(place, house): aways[house][place] for place, many in folk for house in opening})
    lack = lack_of(filling, folk)
    if lack is not None:
        return ("lack", lack)
    prices = tuple([(place, filling.price(place)) for place, many in folk])
    return ("share", filling.share(), prices, tuple([(house, fee_by(prices, aways[house])) for house in opening]))


def fee_by(prices, away):
    """The least fee of a house with which no price is too much, where away tells how far all places are from it."""
    return max([0] + [price - away[place] for place, price in prices])


def fees_stand(case, opening, prices, fees):
    """True where the things are prices and fees, and no price is more than a house's fee and the far; else False."""
    if not are_folk_rows(case, prices) or not all([is_whole(price) for place, price in prices]):
        return False
    if not are_rows(fees, opening) or not all([is_whole_from(fee, 0) for house, fee in fees]):
        return False
    aways = site_fars(case)
    return all([price <= fee + aways[house][place] for place, price in prices for house, fee in fees])


def low_by(case, opening, rooms, prices, fees):
    """The low of prices and fees that stand: each many times its price, less each room times its fee, together."""
    paid, asked = dict(prices), dict(fees)
    return sum([many * paid[place] for place, many in case[2]]) - sum([room * asked[house] for house, room in rooms])
