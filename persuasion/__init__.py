"""Persuasion: what telling can bring about."""
