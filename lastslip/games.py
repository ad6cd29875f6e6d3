"""Games in which an opponent chooses, a hand replies, and the arrows may slip and reset.

The hand wins if there are only finitely many slips, or infinitely many resets. An arrow is a tuple
(choice, target, safe, reset). The hand replies to a choice of the opponent with one of its arrows.
"""

from lastslip.graphs import explored, ordered_parts, targets_of


def _is_calm(arrow):
    """Whether the arrow neither slips nor resets."""
    return arrow[2] and not arrow[3]


class Game:
    """A game on a graph of arrows: who wins from which node, and why.

    At a free node the hand chooses among all arrows.
    """

    def __init__(self, graph, free):
        # An option is a node and the arrows that one choice of the opponent leaves to the hand.
        self._options = []
        self._ways = [[] for _ in graph]
        self._sources = [[] for _ in graph]
        self._find_options(graph, free)
        # Where the hand wins: the node's rank, and a reply to each option.
        self._ranks = [None] * len(graph)
        self._replies = {}
        self._missing = [0] * len(graph)
        # Where it loses: the node's rank and steps, and the option that the opponent takes.
        self._lost = [None] * len(graph)
        self._steps = [0] * len(graph)
        self._taken = {}
        for part in ordered_parts(targets_of(graph))[::-1]:
            self._decide(part)

    def _find_options(self, graph, free):
        """Finds the options of all nodes, and which of them lead to a node."""
        for node, arrows in enumerate(graph):
            numbers = {}
            for arrow in arrows:
                choice = None if free[node] else arrow[0]
                if choice not in numbers:
                    numbers[choice] = len(self._options)
                    self._ways[node].append(len(self._options))
                    self._options.append((node, []))
                self._options[numbers[choice]][1].append(arrow)
                self._sources[arrow[1]].append((numbers[choice], arrow))

    def _decide(self, part):
        """Finds who wins from the nodes of a part, when this is known for all nodes that it leads to."""
        lost = part
        while lost:
            # What is lost may take replies away, so that all other ranks are found anew.
            nodes = [node for node in part if self._lost[node] is None]
            self._begin(nodes)
            rest = self._unranked(nodes)
            lost = self._drawn(rest)
            while len(lost) < len(rest):
                self._settle([node for node in rest if node not in lost])
                rest = self._unranked(rest)
                lost = self._drawn(rest)
            self._lose(lost)

    def _unranked(self, nodes):
        """Those of the nodes that have no rank."""
        return [node for node in nodes if self._ranks[node] is None]

    def _begin(self, nodes):
        """Gives ranks where the hand can always reset, or reach what has a rank, at once or step by step."""
        for node in nodes:
            self._ranks[node] = None
            self._missing[node] = len(self._ways[node])
            for number in self._ways[node]:
                self._replies[number] = None
        waiting = []
        for node in nodes:
            for number in self._ways[node]:
                good = [arrow for arrow in self._options[number][1] if self._is_good(arrow)]
                if good:
                    self._reply(number, good[0], waiting)
        self._spread(waiting)

    def _is_good(self, arrow):
        """Whether the hand wins by the arrow, as far as is known: it may lead back by a reset."""
        return self._ranks[arrow[1]] is not None or (arrow[3] and self._lost[arrow[1]] is None)

    def _least_rank(self, number):
        """The least rank that the reply to an option lets a node have."""
        _, target, safe, reset = self._replies[number]
        if reset:
            return 0
        return self._ranks[target] if safe else self._ranks[target] + 1

    def _reply(self, number, arrow, waiting):
        """Keeps the reply to an option; a node gets its rank with its last reply."""
        node = self._options[number][0]
        self._replies[number] = arrow
        self._missing[node] -= 1
        if self._missing[node] == 0:
            self._ranks[node] = max([self._least_rank(way) for way in self._ways[node]])
            waiting.append(node)

    def _spread(self, waiting):
        """Gives ranks to the nodes from which the hand reaches the waiting ones, whatever is chosen."""
        while waiting:
            node = waiting.pop()
            for number, arrow in self._sources[node]:
                if self._is_open(number):
                    self._reply(number, arrow, waiting)

    def _is_open(self, number):
        """Whether an option is one of the nodes in question and has no reply."""
        return number in self._replies and self._replies[number] is None

    def _drawn(self, nodes):
        """The nodes from which the opponent can draw the hand to a slip, or to what is lost, in order.

        Each of them has its option, whose safe arrows lead to earlier ones or to what is lost.
        """
        counts = {}
        drawn = {}
        for node in nodes:
            for number in self._ways[node]:
                if self._replies[number] is None:
                    counts[number] = len([arrow for arrow in self._options[number][1]
                                          if _is_calm(arrow) and self._lost[arrow[1]] is None])
                    if counts[number] == 0 and node not in drawn:
                        drawn[node] = number
        waiting = list(drawn)
        at = 0
        while at < len(waiting):
            node = waiting[at]
            for number, arrow in self._sources[node]:
                if number in counts and _is_calm(arrow):
                    counts[number] -= 1
                    source = self._options[number][0]
                    if counts[number] == 0 and source not in drawn:
                        drawn[source] = number
                        waiting.append(source)
            at += 1
        return drawn

    def _settle(self, nodes):
        """Gives one rank to nodes among which the hand can stay without slips and resets."""
        bounds = [self._least_rank(number) for node in nodes for number in self._ways[node]
                  if self._replies[number] is not None]
        rank = max(bounds, default=0)
        inside = {node: True for node in nodes}
        for node in nodes:
            self._ranks[node] = rank
            for number in self._ways[node]:
                if self._replies[number] is None:
                    calm = [arrow for arrow in self._options[number][1] if _is_calm(arrow) and arrow[1] in inside]
                    self._replies[number] = calm[0]
        self._spread(list(nodes))

    def _lose(self, drawn):
        """Keeps that the drawn nodes are lost, with one rank and with falling steps."""
        falls = [self._lost[target] + 1 if reset else self._lost[target] for number in drawn.values()
                 for _, target, _, reset in self._options[number][1] if self._lost[target] is not None]
        rank = max(falls, default=0)
        for node, number in drawn.items():
            behind = [self._steps[arrow[1]] + 1 for arrow in self._options[number][1] if _is_calm(arrow)]
            self._lost[node] = rank
            self._steps[node] = max(behind, default=0)
            self._taken[node] = number

    def is_won(self, node):
        """Whether the hand wins from a node."""
        return self._lost[node] is None

    def row(self, node):
        """The rank, the steps and the arrows of a node, as they prove who wins.

        If the hand wins, they are its replies; otherwise they are what the opponent leaves to it.
        """
        if self.is_won(node):
            return self._ranks[node], 0, [self._replies[number] for number in self._ways[node]]
        return self._lost[node], self._steps[node], self._options[self._taken[node]][1]


def outcome(first, steps, is_free):
    """Whether the hand wins from the first place, and rows (place, rank, steps, arrows) that prove it.

    The function steps gives the list of the arrows of a place, with a place as target; is_free tells
    whether the hand chooses among all of them. The rows are those of the places that can be reached if
    the winner plays by them; their arrows are pairs (choice, place).
    """
    places, graph = explored(first, steps)
    game = Game(graph, [is_free(place) for place in places])
    rows = []
    waiting = [0]
    seen = {0: True}
    while waiting:
        node = waiting.pop()
        rank, many, arrows = game.row(node)
        rows.append((places[node], rank, many, [(arrow[0], places[arrow[1]]) for arrow in arrows]))
        for _, target, _, _ in arrows:
            if target not in seen:
                seen[target] = True
                waiting.append(target)
    return game.is_won(0), rows
