"""The tree of some entries, and the search in it.

A tree is None if it is empty, else the Node on its top. It may be as deep as there are
entries, so it is built and walked by loops with a list of what is still waiting.
"""

from stretchindex.entries import in_order, rank


class Node:
    def __init__(self, entry):
        self.entry = entry
        self.weight = weight(entry.number)
        self.left = None
        self.right = None
        self.least_first = entry.first
        self.greatest_end = entry.end


class Window:
    def __init__(self, low, high, first, end):
        self.low = low
        self.high = high
        self.first = first
        self.end = end


def weight(number):
    return (number * 48271 + 11) % 2147483647


def tree_of(entries):
    """The tree of a list of entries.

    They are put in one by one in order; `open_nodes` is the way from the top along the right
    trees, the only nodes under which a later entry can still come.
    """
    open_nodes = []
    for entry in in_order(entries):
        node = Node(entry)
        node.left = close_lighter(open_nodes, node.weight)
        if len(open_nodes) > 0:
            above = open_nodes[-1]
            above.right = node
        open_nodes.append(node)
    top = None
    while len(open_nodes) > 0:
        top = close_last(open_nodes)
    return top


def close_lighter(open_nodes, bound):
    """Take the nodes lighter than bound off the end; give back the topmost of them, or None."""
    closed = None
    while len(open_nodes) > 0 and open_nodes[-1].weight < bound:
        closed = close_last(open_nodes)
    return closed


def close_last(open_nodes):
    # Only now has the node both its trees for good, and these were closed before it.
    node = open_nodes.pop()
    for below in (node.left, node.right):
        if below is not None:
            node.least_first = min(node.least_first, below.least_first)
            node.greatest_end = max(node.greatest_end, below.greatest_end)
    return node


def hits(entry, window):
    has_key = window.low <= entry.key <= window.high
    return has_key and entry.first < window.end and window.first < entry.end


def passed_over(tree, window):
    return tree.greatest_end <= window.first or tree.least_first >= window.end


def search(tree, window):
    """The entries found, in order, and how many were looked at."""
    found = []
    looked_at = 0
    waiting = []
    node = tree
    while node is not None or len(waiting) > 0:
        if node is None:
            node = waiting.pop()
            looked_at += 1
            if hits(node.entry, window):
                found.append(node.entry)
            node = node.right if node.entry.key <= window.high else None
        elif passed_over(node, window):
            node = None
        else:
            waiting.append(node)
            node = node.left if window.low <= node.entry.key else None
    return (found, looked_at)


def depths(tree):
    """A pair for each entry, in order: its number and how many entries stand above it."""
    pairs = []
    waiting = []
    node = tree
    depth = 0
    while node is not None or len(waiting) > 0:
        if node is None:
            last = waiting.pop()
            node = last[0]
            depth = last[1]
            pairs.append((node.entry.number, depth))
            node = node.right
        else:
            waiting.append((node, depth))
            node = node.left
        depth += 1
    return pairs


def way_down(tree, entry):
    """The entries from the top down to one that is in the tree, both among them."""
    way = [tree.entry]
    node = tree
    while node.entry.number != entry.number:
        node = node.left if rank(entry) < rank(node.entry) else node.right
        way.append(node.entry)
    return way
