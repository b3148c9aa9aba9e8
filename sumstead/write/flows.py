"""Flows along links with least and greatest numbers, such that as much leads into each node as out of it.

What links carry at least is sent first. What lacks or is too much at nodes then is sent from a source to a
sink, along shortest ways with room left, until there is no such way.
"""


class Net:
    """Nodes, and edges with room for more; each edge stands beside one that leads back."""

    def __init__(self, many):
        self.source = many
        self.sink = many + 1
        self.goals = []
        self.spare = []
        self.edges_at = [[] for _ in range(many + 2)]
        self.depths = []
        self.tried = []

    def link(self, one, other, room):
        """Adds an edge and the one back; the index of the first."""
        edge = len(self.goals)
        self.goals.extend([other, one])
        self.spare.extend([room, 0])
        self.edges_at[one].append(edge)
        self.edges_at[other].append(edge + 1)
        return edge

    def measure(self):
        """Finds how far each node is from the source; None where no way with room leads."""
        self.depths = [None] * len(self.edges_at)
        self.depths[self.source] = 0
        row = [self.source]
        while len(row) > 0:
            found = []
            for node in list(row):
                for edge in self.edges_at[node]:
                    goal = self.goals[edge]
                    if self.spare[edge] > 0 and self.depths[goal] is None:
                        self.depths[goal] = self.depths[node] + 1
                        found.append(goal)
            row = found

    def _next_edge(self, node):
        """The next edge from a node that leads on along a shortest way, or None."""
        edges = self.edges_at[node]
        while self.tried[node] < len(edges):
            edge = edges[self.tried[node]]
            if self.spare[edge] > 0 and self.depths[self.goals[edge]] == self.depths[node] + 1:
                return edge
            self.tried[node] = self.tried[node] + 1
        return None

    def _shortest_way(self):
        """The edges of a shortest way from the source to the sink, or None."""
        way = []
        node = self.source
        while node != self.sink:
            edge = self._next_edge(node)
            if edge is not None:
                way.append(edge)
                node = self.goals[edge]
            elif len(way) == 0:
                return None
            else:
                # The last edge leads nowhere: it is not tried again.
                node = self.goals[way.pop() ^ 1]
                self.tried[node] = self.tried[node] + 1
        return way

    def fill(self):
        """Sends as much as can be sent from the source to the sink."""
        self.measure()
        while self.depths[self.sink] is not None:
            self.tried = [0] * len(self.edges_at)
            way = self._shortest_way()
            while way is not None:
                more = min([self.spare[edge] for edge in way])
                for edge in way:
                    self.spare[edge] = self.spare[edge] - more
                    self.spare[edge ^ 1] = self.spare[edge ^ 1] + more
                way = self._shortest_way()
            self.measure()


def flow_along(many, links):
    """What each link (from, to, least, greatest) carries, and the nodes that bar it: one of both is None.

    The least numbers of the links out of the barring nodes are more than the greatest ones of those into them.
    """
    net = Net(many)
    excess = [0] * many
    edges = []
    for one, other, least, most in links:
        edges.append(net.link(one, other, most - least))
        excess[one] = excess[one] - least
        excess[other] = excess[other] + least
    outer = [net.link(net.source, node, excess[node]) for node in range(many) if excess[node] > 0]
    for node in range(many):
        if excess[node] < 0:
            net.link(node, net.sink, -excess[node])
    net.fill()
    if any([net.spare[edge] > 0 for edge in outer]):
        return (None, [node for node in range(many) if net.depths[node] is None])
    return ([most - net.spare[edge] for edge, (_, _, _, most) in zip(edges, links)], None)
