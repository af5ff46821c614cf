"""Labels: numbers for the names of a term that depend on its shape alone.

The names of a term become vertices, numbered from 0, and its factors edges: tuples
(table name, group, slot kinds, ends), in which the ends are the vertices at the slots.
Colors are a list with a number for each vertex: how many vertices have lesser colors.
Where all colors differ, they are labels. Of all labels to which a search leads, those
are taken whose edges, written with them, are least.
"""

from slotsums.errors import OtherTable
from slotsums.rows import different
from slotsums.turnings import group_of, least_of, turned


def unlike_names(one, other):
    """The names of tables of one term of which the other term has an unlike table."""
    tables = {table.name: table for table, names in one.factors()}
    return [table.name for table, names in other.factors() if tables.get(table.name, table) != table]


def check_terms_agree(one, other):
    """Refuse two terms with unlike tables of one name."""
    unlike = unlike_names(one, other)
    if unlike:
        raise OtherTable(min(unlike))


def empty_position(term):
    """The position of the first empty factor of a term; None if there is none."""
    for position, (table, names) in enumerate(term.factors()):
        if least_of(names, table.turns())[0] == 0:
            return position
    return None


def vertices_of(term):
    """The names of a term: the told ones in the sequence of the row, then the others."""
    return different([name for name, sort in term.told()] + term.names())


def edges_of(term, vertices):
    """The edges of a term. Slots have one kind if turns lead one to the other."""
    found = []
    for table, names in term.factors():
        group = table.turns()
        kinds = [min([order[slot] for order, sign in group]) for slot in range(len(names))]
        found.append((table.name, group, kinds, tuple([vertices.index(name) for name in names])))
    return found


def ranked(looks):
    """Colors for vertices: for each one the number of vertices with lesser looks."""
    ascending = sorted(looks)
    return [ascending.index(look) for look in looks]


def first_colors(term, vertices):
    """Colors by the told row and by the sorts."""
    told = different([name for name, sort in term.told()])
    return ranked([(0, told.index(name), "") if name in told else (1, 0, term.sort_of(name)) for name in vertices])


def looks_of(edges, colors):
    """For each vertex its color, and by the colors of their ends the edges in which it stands."""
    seen = [[] for color in colors]
    for name, group, kinds, ends in edges:
        least = least_of(turned(colors, ends), group)[1]
        for slot, end in enumerate(ends):
            seen[end].append((name, least, kinds[slot]))
    return [(color, sorted(seen[vertex])) for vertex, color in enumerate(colors)]


def refined(edges, colors):
    """The colors, told apart by the edges as far as this goes."""
    former = []
    while colors != former and len(set(colors)) < len(colors):
        former = colors
        colors = ranked(looks_of(edges, former))
    return colors


def shared_color(colors):
    """The vertices of the least color that several have; none if all colors differ."""
    least = min([color for color in colors if colors.count(color) > 1], default=None)
    return [vertex for vertex, color in enumerate(colors) if color == least]


def set_ahead(colors, chosen):
    """The colors in which one vertex comes ahead of the others of its color."""
    return [color + 1 if color == colors[chosen] and vertex != chosen else color
            for vertex, color in enumerate(colors)]


def written_with(edges, labels):
    """The edges as the sorted tuple of tuples (table name, least labels)."""
    return tuple(sorted([(name, least_of(turned(labels, ends), group)[1]) for name, group, kinds, ends in edges]))


def sign_with(edges, labels):
    """The sign of the edges, written with labels, against those at the least labels."""
    sign = 1
    for name, group, kinds, ends in edges:
        sign = sign * least_of(turned(labels, ends), group)[0]
    return sign


def leads_to(start, goals, orders):
    """Whether some orders in succession lead from one vertex to one of the goals."""
    reached = [start]
    at = 0
    while at < len(reached):
        for order in orders:
            if order[reached[at]] not in reached:
                reached.append(order[reached[at]])
        at += 1
    return any([goal in reached for goal in goals])


class Search:
    """The labels to which a search leads, and the orders of the vertices that keep all edges.

    Labels that differ by such an order only need to be looked at once: where a vertex
    can be brought to one that was chosen before, choosing it brings nothing new. The
    orders that are found make all orders that keep the edges.
    """

    def __init__(self, edges, colors):
        self._edges = edges
        self.labels_of = {}
        self.orders = []
        self._explore(refined(edges, colors), [])

    def _explore(self, colors, chosen):
        """Choose each vertex of a shared color in turn to come first."""
        several = shared_color(colors)
        if not several:
            self._note(colors)
        tried = []
        for vertex in several:
            keeping = [order for order in self.orders if turned(order, chosen) == tuple(chosen)]
            if not leads_to(vertex, tried, keeping):
                self._explore(refined(self._edges, set_ahead(colors, vertex)), chosen + [vertex])
                tried.append(vertex)

    def _note(self, labels):
        """Keep new labels; two that write the edges alike make an order that keeps the edges."""
        written = written_with(self._edges, labels)
        first = self.labels_of.setdefault(written, labels)
        if first != labels:
            self.orders.append(tuple([labels.index(label) for label in first]))


class Labelling:
    """The labels of the names of a term without an empty factor."""

    def __init__(self, term):
        self.vertices = vertices_of(term)
        self.edges = edges_of(term, self.vertices)
        search = Search(self.edges, first_colors(term, self.vertices))
        self.written = min(search.labels_of)
        self.labels = search.labels_of[self.written]
        self.orders = search.orders
        self.told_labels = tuple([self.labels[self.vertices.index(name)] for name, sort in term.told()])
        self.label_sorts = tuple([term.sort_of(name) for name in self.by_label()])

    def by_label(self):
        """The names, in the sequence of their labels."""
        return [self.vertices[self.labels.index(label)] for label in range(len(self.labels))]

    def key(self):
        """What terms of one shape have in common, and no others: told labels, sorts, edges."""
        return self.told_labels, self.label_sorts, self.written

    def label_sign(self):
        """The sign of the term against the one that is written with its least labels."""
        return sign_with(self.edges, self.labels)

    def order_sign(self, order):
        """The sign of an order of the vertices that keeps the edges."""
        return sign_with(self.edges, list(range(len(order)))) * sign_with(self.edges, order)

    def many_orders(self):
        """How many orders of the vertices keep the edges."""
        return len(group_of(len(self.vertices), [(order, 1) for order in self.orders]))
