"""Makes: files kept for years by programs of many makes."""
