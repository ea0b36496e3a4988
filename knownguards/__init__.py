"""The greatest guard for what is known of programs over cells."""
