"""The tests of crosshomes."""
