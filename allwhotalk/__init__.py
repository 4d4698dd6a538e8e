"""All partners of a service that exchanges messages."""
