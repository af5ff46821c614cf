"""Terms as stores: each name becomes a place of its sort."""


def places_of_names(term):
    """A dict from the names of a term to places: the k-th of its names of a sort becomes the place k."""
    found = {}
    many = {}
    for name in term.names():
        sort = term.sort_of(name)
        found[name] = many.get(sort, 0)
        many[sort] = found[name] + 1
    return found


def told_as_places(term):
    """The told row of a term as places."""
    places = places_of_names(term)
    return tuple([places[name] for name, sort in term.told()])


def letters_as_places(term):
    """The letters of the factors as places: a dict from tuples (table name, least places) to their tables, sorted."""
    places = places_of_names(term)
    found = {}
    for table, names in term.factors():
        sign, least = table.least(tuple([places[name] for name in names]))
        found[table.name, least] = table
    return {letter: found[letter] for letter in sorted(found)}


def contents_of(letters, entries):
    """The contents of a store in which the letters have these entries, in their sequence, and all others 0."""
    tables = {}
    rows = {}
    for (name, places), entry in zip(letters, entries):
        tables[name] = letters[name, places]
        rows.setdefault(name, {})[places] = entry
    return [(tables[name], rows[name]) for name in tables]
