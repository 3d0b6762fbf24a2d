"""Mustpass: rooms through which every way goes, loops, and where marks meet."""
