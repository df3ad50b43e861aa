"""Risemarks: marks handed out by many hands so that they rise."""
