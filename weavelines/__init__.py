"""Weavelines: reckonings done side by side in the same cells."""
