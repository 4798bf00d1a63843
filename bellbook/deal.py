"""A whole number dealt out by weights, or poured into vessels."""

from bellbook.errors import BadNumber, NoWeight


def shares(amount, weights):
    check_from_nought(amount, weights)
    if amount == 0:
        return [0 for weight in weights]
    whole = sum(weights)
    if whole == 0:
        raise NoWeight("something to deal out and nobody to have it")
    parts = [amount * weight // whole for weight in weights]
    broken = [amount * weight % whole for weight in weights]
    left = amount - sum(parts)
    for place in greatest_first(broken)[:left]:
        parts[place] = parts[place] + 1
    return parts


def poured(amount, sizes):
    check_from_nought(amount, sizes)
    parts = []
    left = amount
    for size in sizes:
        part = min(size, left)
        parts.append(part)
        left = left - part
    return (parts, left)


def check_from_nought(amount, numbers):
    if amount < 0 or any([number < 0 for number in numbers]):
        raise BadNumber("a number below nought")


def greatest_first(numbers):
    # A sort leaves equal ones in their order, so the earlier one goes first.
    return sorted(range(len(numbers)), key=lambda place: -numbers[place])
