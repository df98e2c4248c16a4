"""Spareline: nets of lines, what cuts them, and the fewest new lines that hold them together."""
