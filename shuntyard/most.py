"""The most that lanes can hold, and the walls that show why they hold no more.

The lanes are sent through a net from a source to a sink. Each wagon is an edge with room for one lane and the price
-1, all other edges cost nothing, so the cheapest way is the one that gains most wagons. Sent one by one along the
cheapest way, with the ways back taken too, the lanes hold as many wagons as can be; the costs that are left then tell
the walls.
"""

SOURCE = 0
SINK = 1
# An edge between wagons leads from or to a wagon with room for one lane, so it carries no more and is never full.
AMPLE = 2


class Net:
    def __init__(self, nodes):
        self.nodes = nodes
        self.starts = []
        self.ends = []
        self.rooms = []
        self.prices = []
        self.costs = []
        self.ways = []

    def add_edge(self, start, end, room, price):
        self.starts.append(start)
        self.ends.append(end)
        self.rooms.append(room)
        self.prices.append(price)

    # Each edge is followed by its way back, so that the number of the one is that of the other with the last bit
    # turned. The way back has as much room as the edge carries.
    def link(self, start, end, room, price):
        self.add_edge(start, end, room, price)
        self.add_edge(end, start, 0, -price)

    # Ends, because no circle of edges with room has a price below nought as long as lanes go the cheapest way.
    def find_ways(self):
        self.costs = [None for node in range(self.nodes)]
        self.ways = [None for node in range(self.nodes)]
        self.costs[SOURCE] = 0
        lowered = True
        while lowered:
            lowered = self.lower_costs()

    def lower_costs(self):
        lowered = False
        for edge in range(len(self.starts)):
            if self.is_cheaper(edge):
                self.costs[self.ends[edge]] = self.costs[self.starts[edge]] + self.prices[edge]
                self.ways[self.ends[edge]] = edge
                lowered = True
        return lowered

    def is_cheaper(self, edge):
        near = self.costs[self.starts[edge]]
        far = self.costs[self.ends[edge]]
        if self.rooms[edge] == 0 or near is None:
            return False
        return far is None or near + self.prices[edge] < far

    def send_lane(self):
        node = SINK
        while node != SOURCE:
            edge = self.ways[node]
            self.rooms[edge] = self.rooms[edge] - 1
            self.rooms[edge ^ 1] = self.rooms[edge ^ 1] + 1
            node = self.starts[edge]

    # For each node that a lane comes to, the node that it comes from. (Of the sink, to which all come, just one.)
    def origins_of_lanes(self):
        origins = {}
        for edge in range(0, len(self.starts), 2):
            if self.rooms[edge ^ 1] > 0:
                origins[self.ends[edge]] = self.starts[edge]
        return origins


def front(place):
    return 2 * place + 2


def back(place):
    return 2 * place + 3


def net_of(row):
    net = Net(2 * len(row) + 2)
    # A lane may stay empty. Through this edge every node has a cost, and none above nought.
    net.link(SOURCE, SINK, AMPLE, 0)
    for place in range(len(row)):
        net.link(SOURCE, front(place), AMPLE, 0)
        net.link(front(place), back(place), 1, -1)
        net.link(back(place), SINK, AMPLE, 0)
        for other in range(place + 1, len(row)):
            if row[place] < row[other]:
                net.link(back(place), front(other), AMPLE, 0)
    return net


def most(row, lanes):
    net = net_of(row)
    net.find_ways()
    sent = 0
    # Once the cheapest way gains nothing, all wagons are held and the lanes that are left stay empty.
    while sent < lanes and net.costs[SINK] < 0:
        net.send_lane()
        net.find_ways()
        sent = sent + 1
    return (rows_held(net, row), walls_found(net, row))


def rows_held(net, row):
    origins = net.origins_of_lanes()
    rows = []
    number_at = {}
    for place in range(len(row)):
        if front(place) in origins:
            origin = origins[front(place)]
            if origin == SOURCE:
                number_at[origin] = len(rows)
                rows.append([])
            number_at[back(place)] = number_at[origin]
            rows[number_at[origin]].append(row[place])
    return rows


# A wagon is in a wall where the cost falls across it. Costs never rise from a wagon to a greater one behind it, so
# two wagons with the same cost in front, across both of which it falls, are never of one rising row.
def walls_found(net, row):
    walls = {}
    for place in range(len(row)):
        cost = net.costs[front(place)]
        if net.costs[back(place)] < cost:
            if cost not in walls:
                walls[cost] = []
            walls[cost].append(row[place])
    return list(walls.values())
