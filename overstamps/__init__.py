"""Overstamps: strips printed by opaque stamps of one width."""
