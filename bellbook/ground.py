"""What names, numbers, prices, amounts and sides must be like."""

from bellbook.errors import BadName, BadNumber, BadSide

LETTERS = "abcdefghijklmnopqrstuvwxyz"
LETTERS_AND_FIGURES = "abcdefghijklmnopqrstuvwxyz0123456789"
LONGEST_NAME = 12
GREATEST_PRICE = 1000000000
GREATEST_AMOUNT = 1000000000


def is_name(text):
    if text == "" or len(text) > LONGEST_NAME:
        return False
    # Python's own tests for letters and figures take those of other alphabets too.
    return text[0] in LETTERS and all([sign in LETTERS_AND_FIGURES for sign in text])


def checked_name(text):
    if not is_name(text):
        raise BadName("no name")
    return text


def checked_number(number, low, high):
    if number < low or number > high:
        raise BadNumber("a number out of its bounds")
    return number


def checked_price(price):
    return checked_number(price, 1, GREATEST_PRICE)


def checked_amount(amount):
    return checked_number(amount, 1, GREATEST_AMOUNT)


def checked_side(side):
    if side not in ("buy", "sell"):
        raise BadSide("no side")
    return side
