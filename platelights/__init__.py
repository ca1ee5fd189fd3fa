"""Platelights: polarised light through plates, decided for all lights."""
