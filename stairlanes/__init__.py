"""Stairlanes: balls that run through forks, and end as stairs."""
