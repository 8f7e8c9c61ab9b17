"""Lapwork: loops whose turns are laid over one another, and flat code that does as they say."""
