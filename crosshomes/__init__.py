"""Crosshomes: households that exchange homes."""
