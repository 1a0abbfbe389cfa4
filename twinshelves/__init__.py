"""Twinshelves: shelves of files in several houses, led together two ways."""
