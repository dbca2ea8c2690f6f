"""All nodes of a case with a menu, and their values."""

from tinkerhall.errors import TooMany
from tinkerhall.nodework import NodeWork

MOST_NODES = 2000
NONE = -1


class Web:
    """The nodes in the order in which they are found, told by their numbers.

    `met` tells for each whether it is met, `ways` its deeds: rows (deed, minutes, pairs of a sign and a follower).
    """

    def __init__(self, case, menu, goal):
        self.work = NodeWork(case, goal)
        self.nodes = [self.work.first_node()]
        self.ways = []
        numbers = {self.nodes[0]: 0}
        while len(self.ways) < len(self.nodes):
            node = self.nodes[len(self.ways)]
            found = [(deed, self.work.led_to(menu, node, deed)) for deed in self.work.deeds_of(menu, node)]
            for _, led in found:
                for _, follower in led:
                    if follower not in numbers:
                        numbers[follower] = len(numbers)
                        self.nodes.append(follower)
            if len(self.nodes) > MOST_NODES:
                raise TooMany("node")
            self.ways.append([(deed, self.work.minutes_of(menu, deed), [(sign, numbers[told]) for sign, told in led])
                              for deed, led in found])
        self.met = [self.work.meets(node) for node in self.nodes]
        # A look leaves fewer worlds or leads back to the same node, and a swap takes a part off the shelf.
        ordered = sorted([(len(left), len(arrangement[1]), number)
                          for number, (arrangement, left) in enumerate(self.nodes)])
        self.last_first = [number for _, _, number in ordered]

    def worths(self):
        """The value of each node, or -1."""
        told = [NONE] * len(self.nodes)
        for number in self.last_first:
            rows = [(minutes, [told[follower] for _, follower in led]) for _, minutes, led in self.ways[number]]
            told[number] = value_by(self.met[number], rows)
        return told


def value_by(met, rows):
    """The value of a node; `rows` has for each deed its minutes and the values of its followers."""
    if met:
        return 0
    return min([minutes + max(behind) for minutes, behind in rows if NONE not in behind], default=NONE)
