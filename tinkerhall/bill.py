"""Bills of minutes and a price."""


class Bill:
    """Minutes and a price, which can be added and taken off."""

    def __init__(self, minutes=0, price=0):
        self.minutes = minutes
        self.price = price

    def __add__(self, other):
        return Bill(self.minutes + other.minutes, self.price + other.price)

    def __sub__(self, other):
        return Bill(self.minutes - other.minutes, self.price - other.price)

    def __eq__(self, other):
        return isinstance(other, Bill) and self.minutes == other.minutes and self.price == other.price
