"""Undoamid: deeds that can be undone, also from the middle."""
