"""Nodes: arrangements of a case, with the worlds that are left."""

from tinkerhall.forms import as_tuples
from tinkerhall.nodework import NodeWork
from tinkerhall.webs import Web


def is_met(case, node, goal=None):
    """Whether the node is met."""
    return NodeWork(case, goal).meets(as_tuples(node))


def deeds_at(case, menu, node, goal=None):
    """The deeds at the node, in order."""
    return tuple(NodeWork(case, goal).deeds_of(menu, as_tuples(node)))


def followers_of(case, menu, node, deed):
    """The followers of the node by this deed, as pairs (sign, node)."""
    return tuple(NodeWork(case, None).led_to(menu, as_tuples(node), as_tuples(deed)))


def nodes(case, menu, goal=None):
    """All nodes, in the order in which they are found."""
    return tuple(Web(case, menu, goal).nodes)
