"""Echofold: rows of letters priced against their own echoes."""
