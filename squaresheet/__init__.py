"""Squaresheet: sheets of squares sewn side to side."""
