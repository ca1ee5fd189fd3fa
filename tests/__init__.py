"""The tests of platelights."""
