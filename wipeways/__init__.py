"""Wipeways: kept worths wiped on every way."""
