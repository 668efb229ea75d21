"""Splitstream: nets of pipes, how a stream splits in them, and how hard they are between two places."""
