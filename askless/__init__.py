"""Askless: walkers who ask nobody."""
