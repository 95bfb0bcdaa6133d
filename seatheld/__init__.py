"""Who holds which seat in a conversation."""
