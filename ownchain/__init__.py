"""Ownchain: a small language whose maker is written in itself."""
