"""Nodes and the ways between them, found from a beginning on."""

from missbounds.errors import TooManySituations


def spread(begin, ways_from, most):
    """Return the nodes to which ways lead from a beginning, and a row of the ways of each node.

    `ways_from` is a function of a node; it returns a list of pairs: what is told of a way, and the node to which
    it leads. In the rows the index of the node stands instead. The nodes come in the order of the shortest ways
    to them, and of these the least. Raises TooManySituations if there are more nodes than `most`, unless it is
    None.
    """
    nodes = [begin]
    indexes = {begin: 0}
    rows = []
    while len(rows) < len(nodes):
        row = []
        ways = ways_from(nodes[len(rows)])
        for told, node in ways:
            if node not in indexes:
                if len(nodes) == most:
                    raise TooManySituations(most)
                indexes[node] = len(nodes)
                nodes.append(node)
            row.append((told, indexes[node]))
        rows.append(row)
    return nodes, rows


def way_to(rows, goal):
    """Return the least of the shortest ways from the beginning to a node: for each way its place in its row."""
    sources = {}
    for node, row in enumerate(rows):
        for place, (told, behind) in enumerate(row):
            sources.setdefault(behind, (node, place))
    places = []
    while goal != 0:
        goal, place = sources[goal]
        places.append(place)
    return tuple(places[::-1])


def told_to(rows, goal):
    """Return what is told on the least of the shortest ways from the beginning to a node."""
    told = []
    node = 0
    for place in way_to(rows, goal):
        word, node = rows[node][place]
        told.append(word)
    return tuple(told)


def told_on(rows, walk):
    """Return what is told on the ways of a walk: a list of pairs of a node and the place of a way in its row."""
    return tuple([rows[node][place][0] for node, place in walk])
