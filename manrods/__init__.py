"""Manrods: a mine whose two rods lift its men and its water."""
