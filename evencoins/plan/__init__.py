"""What is to be worked out: circuits."""
