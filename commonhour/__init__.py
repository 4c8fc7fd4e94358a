"""Commonhour: people's answers by hours, and hours at which they can meet."""
