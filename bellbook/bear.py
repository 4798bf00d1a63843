"""A loss borne in its order: the own part of the fund, the chest, the others' parts, the others' worths."""

from bellbook.deal import poured, shares


def borne(loss, fund, chest, funds, worths):
    able = [max(worth, 0) for worth in worths]
    # Pouring and dealing out refuse all that is below nought, so nothing is checked here by itself.
    vessels = poured(loss, [fund, chest, sum(funds), sum(able)])
    parts = vessels[0]
    return (parts[0], parts[1], shares(parts[2], funds), shares(parts[3], able), vessels[1])
