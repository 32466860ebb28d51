"""Botheven: numbers on the ties of a web, led by stars and rounds."""
