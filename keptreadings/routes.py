"""Cheapest routes over steps that lay down tokens."""


class Routes:
    """Steps between nodes, and from each node the cheapest route to a goal.

    A step lays tokens ahead of all that is there already, and others behind it, and costs as many as
    these are.
    """

    def __init__(self, goal):
        self.goal = goal
        self.into = {}
        self.costs = {}
        self.steps = {}

    def add(self, node, target, ahead, behind):
        """Add a step from a node to another one."""
        self.into.setdefault(target, []).append((node, target, tuple(ahead), tuple(behind)))

    def measure(self):
        """Find the cheapest step from each node from which the goal is reached."""
        waiting = [[(self.goal, None)]]
        cost = 0
        while cost < len(waiting):
            while waiting[cost]:
                node, step = waiting[cost].pop()
                if node not in self.costs:
                    self.costs[node] = cost
                    self.steps[node] = step
                    self.reach(node, cost, waiting)
            cost += 1
        # Only the way from each node to the goal is asked for from here on.
        self.into = {}

    def reach(self, node, cost, waiting):
        """Let the nodes wait that have a step to a node of some cost, each at its own cost."""
        for step in self.into.get(node, []):
            price = cost + len(step[2]) + len(step[3])
            while len(waiting) <= price:
                waiting.append([])
            waiting[price].append((step[0], step))

    def is_open(self, node):
        """Whether the goal is reached from a node."""
        return node in self.costs

    def around(self, node):
        """The tokens that the cheapest route from a node lays ahead, and those that it lays behind."""
        leads, rest = [], []
        while node != self.goal:
            _, node, ahead, behind = self.steps[node]
            leads.append(ahead)
            rest.extend(behind)
        return ([token for lead in reversed(leads) for token in lead], rest)

    def text(self, node, middle):
        """The tokens of the cheapest route from a node, laid around some that are there already."""
        ahead, behind = self.around(node)
        return ahead + middle + behind

    def cheapest(self, starts):
        """The text of the cheapest one of some tuples (node, middle), None if none reaches the goal."""
        best, least = None, 0
        for node, middle in starts:
            if node in self.costs:
                price = self.costs[node] + len(middle)
                if best is None or price < least:
                    best, least = (node, middle), price
        return None if best is None else self.text(best[0], best[1])
