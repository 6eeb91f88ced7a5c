"""Glossring: told words in a document of parts."""
