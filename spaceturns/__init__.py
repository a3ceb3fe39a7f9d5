"""Spaceturns: numbers of four parts, and turns of space, reckoned with whole numbers."""
