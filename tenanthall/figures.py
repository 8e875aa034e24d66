"""Words of texts, and NUMBERS by figures as texts write them."""

FIGURES = "0123456789"
MOST_FIGURES = 12


def words_of(text):
    """The words of a text: what stands between single blanks; a void text is one void word."""
    return text.split(" ")


def are_figures(word):
    """Whether a word writes a NUMBER by figures: twelve at most, no 0 ahead but in 0 itself."""
    if not 1 <= len(word) <= MOST_FIGURES or not all([sign in FIGURES for sign in word]):
        return False
    return word == "0" or word[0] != "0"
