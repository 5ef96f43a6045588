"""Tiedtables: tables that lean on one another, and what comes of a change."""
