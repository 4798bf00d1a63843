"""A house's purse: its coins, its part of the common fund, and its holdings."""

from bellbook.ground import checked_number, checked_side


class Purse:
    def __init__(self):
        self.coins = 0
        self.fund = 0
        self.holdings = {}

    def move(self, coins):
        self.coins = self.coins + coins

    def set_by(self, coins):
        self.coins = self.coins - coins
        self.fund = self.fund + coins

    def take_by(self, coins):
        self.spend_by(coins)
        self.coins = self.coins + coins

    def spend_by(self, coins):
        self.fund = self.fund - checked_number(coins, 0, self.fund)

    def trade(self, ware, side, amount):
        change = amount if checked_side(side) == "buy" else -amount
        self.holdings[ware] = self.holding(ware) + change

    def holding(self, ware):
        return self.holdings.get(ware, 0)

    def look(self):
        told = [(ware, hold) for ware, hold in sorted(self.holdings.items()) if hold != 0]
        return (self.coins, self.fund, told)
