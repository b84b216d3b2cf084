"""Modules that lead back to themselves."""

from firsttouch.rows import IMPORTING, rows_by_path


def rings(program):
    """The greatest sets of modules each of which leads to each, as ascending lists, ascending."""
    links = {module: named_modules(program.rows(module)) for module in program.modules()}
    reached = {module: reached_from(links, module) for module in links}
    found = []
    for module in links:
        ring = [other for other in reached[module] if module in reached.get(other, [])]
        # Each ring is told at its least module.
        if module in ring and module == min(ring):
            found.append(sorted(ring))
    return found


def named_modules(rows):
    """The modules that the load and pick rows of a module name, wherever they stand."""
    return [row[2] for _, row in rows_by_path(rows, ()) if row[0] in IMPORTING]


def reached_from(links, module):
    """The modules to which a module leads; it is one of them only if it leads back to itself."""
    found = []
    left = list(links[module])
    while len(left) > 0:
        other = left.pop()
        if other not in found:
            found.append(other)
            left.extend(links.get(other, []))
    return found
