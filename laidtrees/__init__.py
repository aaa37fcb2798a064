"""Trees of files laid over one another."""
