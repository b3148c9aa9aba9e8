"""Texts of outlines and of cells."""

from sumstead.base.worths import ONE, worth_text
from sumstead.errors import InvalidCells
from sumstead.outline.outlines import Outline, Side, check_outline, is_cells
from sumstead.text.parser import Parser, begin_list, put_in_list
from sumstead.text.parser import take_name, take_names, take_number, take_sign
from sumstead.text.tokens import END, WORD

_NEWLINE = "\n"


def _child_text(child, weight):
    if weight == ONE:
        return child
    return f"{child} * {worth_text(weight)}"


def _side_lines(side):
    lines = [f"side {side.name}", f"leaves {' '.join(side.leaves)}"]
    for told, rows in side.hierarchies:
        lines.append(f"tree {told}")
        for group, children in rows:
            lines.append(f"{group} = {', '.join([_child_text(child, weight) for child, weight in children])}")
    return lines


def write_outline(outline):
    """The text of an outline."""
    check_outline(outline)
    lines = []
    for side in outline.sides:
        lines.extend(_side_lines(side))
    return "\n".join(lines)


def write_cells(outline, cells):
    """The text of cells of an outline."""
    check_outline(outline)
    if not is_cells(outline, cells):
        raise InvalidCells(cells)
    return "\n".join([f"{' '.join(place)}: {worth_text(cells[place])}" for place in sorted(cells)])


def _to_tuples(value):
    """A value in which each list is a tuple; an outline's lists are few deep."""
    if type(value) is list or type(value) is tuple:
        return tuple([_to_tuples(part) for part in value])
    return value


def _side(parser, given):
    """The lines of a side; it makes a list of its name, its leaves and its hierarchies."""
    parser.aim([(take_sign, "side"), (begin_list, None), (take_name, None), (put_in_list, None), (take_sign, _NEWLINE),
                (take_sign, "leaves"), (begin_list, None), (take_names, None), (put_in_list, None),
                (begin_list, None), (_behind_leaves, None)])


def _end_side(parser, given):
    put_in_list(parser, None)
    put_in_list(parser, None)


def _behind_leaves(parser, given):
    """The end, a tree, or a further side; the list of the hierarchies was made last."""
    if parser.next_kind() == END:
        parser.aim([(_end_side, None)])
        return
    take_sign(parser, _NEWLINE)
    if parser.next_text() == "tree":
        parser.aim([(_tree, None)])
    else:
        parser.aim([(_end_side, None), (_side, None)])


def _tree(parser, given):
    """The lines of a hierarchy; it makes a list of its name and its rows."""
    parser.aim([(take_sign, "tree"), (begin_list, None), (take_name, None), (put_in_list, None), (take_sign, _NEWLINE),
                (begin_list, None), (_row, None), (_behind_row, None)])


def _end_tree(parser, given):
    put_in_list(parser, None)
    put_in_list(parser, None)


def _behind_row(parser, given):
    """The end, a further row, a further tree, or a further side; the list of the rows was made last."""
    if parser.next_kind() == END:
        parser.aim([(_end_tree, None), (_end_side, None)])
        return
    take_sign(parser, _NEWLINE)
    word = parser.next_text()
    # A row may begin with the names tree and side: the token behind tells.
    if parser.next_kind() == WORD and word in ("tree", "side") and parser.text_behind() != "=":
        if word == "tree":
            parser.aim([(_end_tree, None), (_tree, None)])
        else:
            parser.aim([(_end_tree, None), (_end_side, None), (_side, None)])
    else:
        parser.aim([(_row, None), (_behind_row, None)])


def _row(parser, given):
    """A line of a group and its children; it goes into the list of the rows."""
    parser.aim([(begin_list, None), (take_name, None), (put_in_list, None), (take_sign, "="),
                (begin_list, None), (_child, None), (_more_children, None), (put_in_list, None), (put_in_list, None)])


def _child(parser, given):
    parser.aim([(begin_list, None), (take_name, None), (put_in_list, None), (_weight, None), (put_in_list, None)])


def _weight(parser, given):
    if parser.next_text() == "*":
        parser.take()
        parser.aim([(take_number, None), (put_in_list, None)])
    else:
        parser.made[-1].append(ONE)


def _more_children(parser, given):
    if parser.next_text() == ",":
        parser.take()
        parser.aim([(_child, None), (_more_children, None)])


def read_outline(text):
    """The outline that a text tells."""
    made = Parser(text).run([(begin_list, None), (_side, None)])
    sides = []
    for told, leaves, hierarchies in made[0]:
        sides.append(Side(told, tuple(leaves), _to_tuples(hierarchies)))
    return Outline(tuple(sides))


def _cell_lines(parser, given):
    """Lines of cells, or none; the list of pairs (take_names, worth)."""
    parser.made.append([])
    if parser.next_kind() != END:
        parser.aim([(_cell_line, None), (_more_cell_lines, None)])


def _more_cell_lines(parser, given):
    if parser.next_text() == _NEWLINE:
        parser.take()
        parser.aim([(_cell_line, None), (_more_cell_lines, None)])


def _cell_line(parser, given):
    parser.aim([(begin_list, None), (take_names, None), (take_sign, ":"), (take_number, None), (_end_cell, None),
                (put_in_list, None)])


def _end_cell(parser, given):
    worth = parser.made.pop()
    place = tuple(parser.made.pop())
    parser.made.append((place, worth))


def read_cells(outline, text):
    """The cells of an outline that a text tells."""
    check_outline(outline)
    rows = Parser(text).run([(_cell_lines, None)])[0]
    cells = {place: worth for place, worth in rows}
    if len(cells) < len(rows) or not is_cells(outline, cells):
        raise InvalidCells(text)
    return {place: cells[place] for place in sorted(cells)}
