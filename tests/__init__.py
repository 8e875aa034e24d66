"""The tests of tenanthall."""
