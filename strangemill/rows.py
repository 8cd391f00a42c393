"""What may be said of rows by themselves."""


def leads_on(row):
    """True for a row that leads to an entry, which is its only part."""
    return row[0] in ("jump", "nought")
