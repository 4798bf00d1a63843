"""A holding torn up against the holdings of others that go the other way."""

from bellbook.deal import shares
from bellbook.errors import BadNumber, Unheld


def torn(hold, others):
    if hold == 0:
        raise BadNumber("no holding to be torn up")
    against = [(who, abs(other)) for who, other in others if hold * other < 0]
    sizes = [size for who, size in against]
    if sum(sizes) < abs(hold):
        raise Unheld("more to be torn up than others hold")
    parts = shares(abs(hold), sizes)
    return [(against[place][0], part) for place, part in enumerate(parts) if part > 0]
