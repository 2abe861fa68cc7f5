"""What is already known of a document that is still being written."""
