"""How integers stand in texts: decimal, without needless zeros, a minus sign ahead of those below 0 alone."""


def integer_told(most, word):
    """The integer that a word tells in at most so many figures, a sign not counted; None if it tells none."""
    figures = word[1:] if word.startswith("-") else word
    if not 1 <= len(figures) <= most or not all(["0" <= sign <= "9" for sign in figures]):
        return None
    if figures[0] == "0" and word != "0":
        return None
    return int(word)
