"""Contents as texts."""

from tiedtables.contents import is_content, is_row
from tiedtables.errors import BadLine
from tiedtables.plans import column_names, table_names, table_place
from tiedtables.words import row_words, worth_of


def content_text(tables, content):
    """The content's text, a line for each row."""
    lines = []
    for table, rows in zip(table_names(tables), content):
        lines.extend([" ".join(["row", table, *row_words(row)]) for row in rows])
    return "\n".join(lines)


def content_from(tables, text):
    """The content of that text, its lines in any order."""
    content = no_rows(tables)
    if text == "":
        return content
    for at, line in enumerate(text.split("\n")):
        content = content_with(tables, content, line)
        if content is None:
            raise BadLine(at)
    return content


def no_rows(tables):
    """The content without a row."""
    return [[] for _ in tables]


def content_with(tables, content, line):
    """The content with one more line; None where the line is not so written or cannot stand."""
    words = line.split(" ")
    if words[0] != "row" or len(words) < 3 or words[1] not in table_names(tables):
        return None
    row = tuple([worth_of(word) for word in words[2:]])
    if not is_row(len(column_names(tables, words[1])), row):
        return None
    place = table_place(tables, words[1])
    rows = sorted([*content[place], row], key=lambda one: one[0])
    told = [*content[:place], rows, *content[place + 1:]]
    # A key that is there already, and a row too many, are told here.
    return told if is_content(tables, told) else None
