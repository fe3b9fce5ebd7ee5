"""Soundtitle: who holds land, whichever of its papers are forged."""
