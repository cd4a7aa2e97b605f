"""Cutweave: snapshots of a running net."""
