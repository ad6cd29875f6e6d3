"""Walks through finite graphs whose arrows have letters.

A graph is a list that has, for each node, the list of its arrows (letter, target, stays, marked).
"""


def explored(first, steps, most=None):
    """The nodes that are found from the first one, in order, and the graph of their numbers.

    The function steps gives the list of the arrows of a node, with a node in the place of its number.
    If there are more nodes than most, neither the nodes nor the graph are complete.
    """
    nodes = [first]
    numbers = {first: 0}
    graph = []
    while len(graph) < len(nodes) and (most is None or len(nodes) <= most):
        found = steps(nodes[len(graph)])
        arrows = []
        for letter, node, stays, marked in found:
            if node not in numbers:
                numbers[node] = len(nodes)
                nodes.append(node)
            arrows.append((letter, numbers[node], stays, marked))
        graph.append(arrows)
    return nodes, graph


def travelled(first, letters, step):
    """The rows (place, letter, next place) of all places that are found from the first one.

    The function step gives the place behind a place and a letter.
    """

    def steps(place):
        return [(letter, step(place, letter), True, True) for letter in letters]

    places, graph = explored(first, steps)
    return [(place, letter, places[target])
            for place, arrows in zip(places, graph) for letter, target, _, _ in arrows]


def _left_behind(targets, root, seen):
    """The new nodes that a search from the root finds, in the order in which it leaves them."""
    left = []
    seen[root] = True
    # The search keeps its own stack, as there may be thousands of nodes on one way.
    stack = [(root, 0)]
    while stack:
        node, at = stack.pop()
        if at == len(targets[node]):
            left.append(node)
            continue
        stack.append((node, at + 1))
        target = targets[node][at]
        if not seen[target]:
            seen[target] = True
            stack.append((target, 0))
    return left


def turned(targets):
    """For each node the nodes that have it as a target."""
    sources = [[] for _ in targets]
    for node, row in enumerate(targets):
        for target in row:
            sources[target].append(node)
    return sources


def leading(targets, wanted):
    """For each node whether it leads to a wanted one; wanted has a boolean for each node."""
    sources = turned(targets)
    seen = list(wanted)
    waiting = [node for node, good in enumerate(wanted) if good]
    while waiting:
        node = waiting.pop()
        for source in sources[node]:
            if not seen[source]:
                seen[source] = True
                waiting.append(source)
    return seen


def ordered_parts(targets):
    """The lots of nodes that lead to each other, as ascending lists; no part leads to an earlier one."""
    seen = [False] * len(targets)
    order = []
    for root in range(len(targets)):
        if not seen[root]:
            order.extend(_left_behind(targets, root, seen))
    sources = turned(targets)
    fresh = [False] * len(targets)
    parts = []
    # What is left last is not reached from what was left before, so that backward searches in
    # this order find one part each.
    for root in order[::-1]:
        if not fresh[root]:
            parts.append(sorted(_left_behind(sources, root, fresh)))
    return parts


def strong_parts(targets):
    """The lots of nodes that lead to each other, as ascending lists, ordered by their least nodes."""
    return sorted(ordered_parts(targets))


def part_numbers(targets):
    """For each node the number of its part in strong_parts."""
    numbers = [0] * len(targets)
    for number, part in enumerate(strong_parts(targets)):
        for node in part:
            numbers[node] = number
    return numbers


def targets_of(graph):
    """For each node the targets of its arrows."""
    return [[arrow[1] for arrow in row] for row in graph]


def shortest_way(graph, first, last):
    """The steps (node, letter) of a shortest way from a node to one that it leads to."""
    came = {first: (first, "")}
    nodes = [first]
    at = 0
    while last not in came:
        node = nodes[at]
        at += 1
        for letter, target, _, _ in graph[node]:
            if target not in came:
                came[target] = (node, letter)
                nodes.append(target)
    walk = []
    node = last
    while node != first:
        walk.append(came[node])
        node = came[node][0]
    return walk[::-1]


def endless_way(graph):
    """The steps of a way from the node 0 and of a circle behind it, or None.

    All arrows of the circle stay, and the first one is marked. Each node is reached from the node 0.
    """
    staying = [[arrow for arrow in row if arrow[2]] for row in graph]
    numbers = part_numbers(targets_of(staying))
    for node, arrows in enumerate(staying):
        for letter, target, _, marked in arrows:
            if marked and numbers[node] == numbers[target]:
                circle = [(node, letter)] + shortest_way(staying, target, node)
                return shortest_way(graph, 0, node), circle
    return None
