"""Tables of answers as lines of text."""

from sumstead.base.worths import worth_text


def _answer_text(answer):
    if answer[0] == "worth":
        return worth_text(answer[1])
    if answer[0] == "nothing":
        return "-"
    return f"#{answer[1][0]}"


def _line(entries, widths):
    cells = [entry.ljust(width) for entry, width in zip(entries, widths)]
    return "  ".join(cells).rstrip(" ")


def lines_of(rows, columns, answers):
    """The lines of a table: the heads of the columns, then a line for each row with its head."""
    table = [("",) + columns]
    for head, told in zip(rows, answers):
        table.append((head,) + tuple([_answer_text(answer) for answer in told]))
    widths = [max([len(entries[index]) for entries in table]) for index in range(len(columns) + 1)]
    return tuple([_line(entries, widths) for entries in table])
